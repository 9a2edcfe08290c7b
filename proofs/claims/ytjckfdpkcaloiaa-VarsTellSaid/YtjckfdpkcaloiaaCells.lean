/- Rows of pairs in memory, and what only reads them. -/
import Derived.Test.YtjckfdpkcaloiaaOrd
import Derived.Test.YtjckfdpkcaloiaaFrame
import Derived.WalkKit
import Derived.LoopTactic
import Derived.BigQuiet
import Derived.Deep.QuietTactic
import Derived.Lib.Hide
import Derived.ChangeAlike
import Derived.RegionTactic
import Derived.WalkLawsBesides
import Derived.Laws.Cover1
import Derived.Laws.OwnMore
namespace Go.Proofs.Ytjckfdpkcaloiaa
open Go.RowKit Go.Lib

theorem below_drewN {B : Nat} {a w : World} (h : Below B a w) (q : Nat) : Below B a (w.drewN q) := ⟨h.os, h.tape, h.output, h.size, h.block⟩

theorem _root_.Go.RowKit.Below.step {B : Nat} {a w w' : World} (h : Below B a w) (h' : Below w.heap.size w w') (hB : B ≤ w.heap.size) : Below B a w' := h.trans (h'.mono hB)

/-- v reads the pairs of g. -/
def Holds (w : World) (v : Value) (g : Pairs) : Prop :=
  ∃ a c, v = .slice a g.length c ∧ g.length ≤ c ∧ c ≤ maxLen ∧ (a = none → c = 0) ∧ (g = [] ∨ ∃ b off, a = some ⟨b, off, none⟩ ∧ b < w.heap.size ∧ ∀ i (h : i < g.length), w.cell? ⟨b, off + i * 2, none⟩ = some (.string g[i].1) ∧ w.cell? ⟨b, off + i * 2 + 1, none⟩ = some (.string g[i].2))

theorem Holds.grown {w w' : World} {v : Value} {g : Pairs} (h : Holds w v g) {B : Nat} (hb : Below B w w') (hB : w.heap.size ≤ B) : Holds w' v g := by
  obtain ⟨a, c, hv, hc, hm, hn, h⟩ := h
  refine ⟨a, c, hv, hc, hm, hn, h.imp id ?_⟩
  rintro ⟨b, off, ha, hlt, hcell⟩
  exact ⟨b, off, ha, by have := hb.size; omega, fun i hi => ⟨(hb.cell (p := ⟨b, _, none⟩) (by show b < B; omega)).trans (hcell i hi).1, (hb.cell (p := ⟨b, _, none⟩) (by show b < B; omega)).trans (hcell i hi).2⟩⟩

theorem Holds.form {w : World} {v : Value} {g : Pairs} (h : Holds w v g) : ∃ a c, v = .slice a g.length c := by
  obtain ⟨a, c, hv, _⟩ := h
  exact ⟨a, c, hv⟩

theorem Holds.open {w : World} {a : Option Addr} {c : Nat} {g : Pairs} (h : Holds w (.slice a g.length c) g) (h0 : 0 < g.length) : ∃ b off, a = some ⟨b, off, none⟩ ∧ b < w.heap.size ∧ ∀ i (h : i < g.length), w.cell? ⟨b, off + i * 2, none⟩ = some (.string g[i].1) ∧ w.cell? ⟨b, off + i * 2 + 1, none⟩ = some (.string g[i].2) := by
  obtain ⟨a', c', hv, _, _, _, h⟩ := h
  simp only [Value.slice.injEq] at hv
  obtain ⟨rfl, _, rfl⟩ := hv
  rcases h with rfl | h
  · simp at h0
  · exact h

theorem Holds.len {w : World} {v : Value} {g : Pairs} (h : Holds w v g) : g.length ≤ 9223372036854775807 := by
  obtain ⟨a, c, hv, hc, hm, _⟩ := h
  unfold maxLen at hm; omega

theorem Holds.nil (w : World) : Holds w (.slice none 0 0) [] := ⟨none, 0, rfl, Nat.le_refl _, by decide, fun _ => rfl, .inl rfl⟩

/-- The answer of Get. -/
def gotV (g : Pairs) (n : ByteArray) : Value := .string ((get g n).getD { data := #[] })

theorem get_drop_hit {g : Pairs} {n : ByteArray} {k : Nat} (hk : k < g.length) (h : get (g.drop k) n = get g n) (e : g[k].1 = n) : get g n = some g[k].2 := by
  rw [← h, List.drop_eq_getElem_cons hk, get_cons, if_pos e]

theorem get_drop_miss {g : Pairs} {n : ByteArray} {k : Nat} (hk : k < g.length) (h : get (g.drop k) n = get g n) (e : ¬ g[k].1 = n) : get (g.drop (k + 1)) n = get g n := by
  rw [← h, List.drop_eq_getElem_cons hk, get_cons, if_neg e]

set_option maxHeartbeats 1000000 in
theorem get_any (v : Value) (g : Pairs) (n : ByteArray) (w : World) (h : Holds w v g) :
    Calls Try.prog 10 #[v, .string n] w fun e w' => e = .returned (.tuple #[gotV g n, .bool (get g n).isSome]) ∧ Below w.heap.size w w' := by
  obtain ⟨a, c, rfl⟩ := h.form
  have hlen := h.len
  have H := Lib.hid h
  clear h
  go_enter Try.func10, Try.ntmps10
  go_wp2_with fail
  go_loopw [10, 10] (fun i _ wr => ∃ k : Nat, k ≤ g.length ∧ i = .int .i64 k ∧ get (g.drop k) n = get g n ∧ Below w.heap.size w wr) (fun i _ _ => g.length - (intOf i).toNat)
  case atStart => exact ⟨0, Nat.zero_le _, rfl, rfl, Below.refl _ _⟩
  case round =>
    obtain ⟨k, hk, rfl, hG, hB⟩ := hrel
    have HG := Lib.hid hG; have HB := Lib.hid hB
    by_cases hlt : k < g.length
    · obtain ⟨b, off, rfl, hb, hc⟩ := H.out.open (by omega)
      have c0 := (hB.cell (p := ⟨b, off + k * 2, none⟩) hb).trans (hc k hlt).1
      have c1 := (hB.cell (p := ⟨b, off + k * 2 + 1, none⟩) hb).trans (hc k hlt).2
      obtain ⟨x, hx⟩ : ∃ x, x = g[k].1 := ⟨_, rfl⟩
      obtain ⟨y, hy⟩ : ∃ y, y = g[k].2 := ⟨_, rfl⟩
      rw [← hx] at c0; rw [← hy] at c1
      have HX := Lib.hid hx; have HY := Lib.hid hy
      clear hc hG hB hx hy
      by_cases e : x = n
      · subst e
        have hq : (x.toList == x.toList) = true := by simp
        go_wp2_with fail
        go_ret2
        have hg := get_drop_hit hlt HG.out HX.out.symm
        rw [← HY.out] at hg
        exact ⟨by rw [gotV, hg]; rfl, HB.out.alloc HB.out.size _⟩
      · have hq : (x.toList == n.toList) = false := by rw [eq_lists]; simpa using e
        go_wp2_with fail
        go_roundw
        case rel => exact ⟨k + 1, by omega, by go_num, get_drop_miss hlt HG.out (by rw [← HX.out]; exact e), HB.out.alloc HB.out.size _⟩
        case measure => simp [intOf]; omega
    · obtain rfl : k = g.length := by omega
      clear hG hB
      go_wp2_with fail
      go_ret2
      have hg := HG.out
      rw [List.drop_length, get_nil] at hg
      exact ⟨by rw [gotV, ← hg]; rfl, HB.out⟩

set_option maxHeartbeats 1000000 in
theorem rget_any (v : Value) (g : Pairs) (n : ByteArray) (w : World) (h : Holds w v g) :
    Calls Try.prog 11 #[v, .string n] w fun e w' => e = .returned (.tuple #[gotV g n, .bool (get g n).isSome]) ∧ Below w.heap.size w w' := by
  obtain ⟨a, c, rfl⟩ := h.form
  have hlen := h.len
  have H := Lib.hid h
  clear h
  go_enter Try.func11, Try.ntmps11
  go_wp2_with fail
  go_loopw [6, 6] (fun i _ wr => ∃ k : Nat, k ≤ g.length ∧ i = .int .i64 k ∧ get (g.drop k) n = get g n ∧ Below w.heap.size w wr) (fun i _ _ => g.length - (intOf i).toNat)
  case atStart => exact ⟨0, Nat.zero_le _, rfl, rfl, Below.refl _ _⟩
  case round =>
    obtain ⟨k, hk, rfl, hG, hB⟩ := hrel
    have HG := Lib.hid hG; have HB := Lib.hid hB
    by_cases hlt : k < g.length
    · obtain ⟨b, off, rfl, hb, hc⟩ := H.out.open (by omega)
      have c0 := (hB.cell (p := ⟨b, off + k * 2, none⟩) hb).trans (hc k hlt).1
      have c1 := (hB.cell (p := ⟨b, off + k * 2 + 1, none⟩) hb).trans (hc k hlt).2
      obtain ⟨x, hx⟩ : ∃ x, x = g[k].1 := ⟨_, rfl⟩
      obtain ⟨y, hy⟩ : ∃ y, y = g[k].2 := ⟨_, rfl⟩
      rw [← hx] at c0; rw [← hy] at c1
      have HX := Lib.hid hx; have HY := Lib.hid hy
      clear hc hG hB hx hy
      by_cases e : x = n
      · subst e
        have hq : (x.toList == x.toList) = true := by simp
        go_wp2_with fail
        go_ret2
        have hg := get_drop_hit hlt HG.out HX.out.symm
        rw [← HY.out] at hg
        exact ⟨by rw [gotV, hg]; rfl, HB.out⟩
      · have hq : (x.toList == n.toList) = false := by rw [eq_lists]; simpa using e
        go_wp2_with fail
        go_roundw
        case rel => exact ⟨k + 1, by omega, by go_num, get_drop_miss hlt HG.out (by rw [← HX.out]; exact e), HB.out⟩
        case measure => simp [intOf]; omega
    · obtain rfl : k = g.length := by omega
      clear hG hB
      go_wp2_with fail
      go_ret2
      have hg := HG.out
      rw [List.drop_length, get_nil] at hg
      exact ⟨by rw [gotV, ← hg]; rfl, HB.out⟩
end Go.Proofs.Ytjckfdpkcaloiaa
