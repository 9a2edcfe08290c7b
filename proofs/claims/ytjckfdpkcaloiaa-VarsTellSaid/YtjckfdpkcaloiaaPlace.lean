/- Where a name stands in a row whose names rise. -/
import Derived.Test.YtjckfdpkcaloiaaRefOver
namespace Go.Proofs.Ytjckfdpkcaloiaa
open Go.RowKit Go.Lib Go.WideShapes

theorem nameOf_any (x y : ByteArray) (w : World) :
    Calls Try.prog 22 #[.agg #[.string x, .string y]] w fun e w' => e = .returned (.string x) ∧ Below w.heap.size w w' := by
  go_enter Try.func22, Try.ntmps22
  go_wp2
  go_ret
  exact ⟨rfl, (Below.refl _ _).alloc (Nat.le_refl _) _⟩

theorem there_at {g : Pairs} {n : ByteArray} (h : place g n < g.length) : there g n = (g[place g n].1.toList == n.toList) := by
  unfold there
  rw [List.getElem?_eq_getElem h]

theorem there_out {g : Pairs} {n : ByteArray} (h : ¬ place g n < g.length) : there g n = false := by
  unfold there
  rw [List.getElem?_eq_none (by omega)]

set_option maxHeartbeats 4000000 in
theorem place_any (u : Value) (g : Pairs) (n : ByteArray) (w : World) (h : Holds w u g) (hr : Rise g) (hsz : g.length ≤ 7000) :
    Calls Try.prog 21 #[u, .string n, .func (.func 22) #[] #[]] w fun e w' => e = .returned (.tuple #[.int .i64 (place g n : Nat), .bool (there g n)]) ∧ Below w.heap.size w w' := by
  obtain ⟨a, c, rfl⟩ := h.form
  have H := Lib.hid h; have HR := Lib.hid hr
  have hpl := place_le g n
  have HI := Lib.hid (fun i (hi : i < g.length) => place_iff hr n i hi)
  obtain ⟨P, hP⟩ : ∃ P, P = place g n := ⟨_, rfl⟩
  rw [← hP] at hpl HI
  have HP := Lib.hid hP
  clear h hr hP
  go_enter Try.func21, Try.ntmps21
  go_wp2_with fail
  go_loopw [8, 9] (fun lo hi wr => ∃ l m : Nat, l ≤ P ∧ P ≤ m ∧ m ≤ g.length ∧ lo = .int .i64 l ∧ hi = .int .i64 m ∧ Below w.heap.size w wr) (fun lo hi _ => (intOf hi).toNat - (intOf lo).toNat)
  case atStart => exact ⟨0, g.length, Nat.zero_le _, hpl, Nat.le_refl _, rfl, rfl, Below.refl _ _⟩
  case round =>
    obtain ⟨l, m, hl, hm, hmg, rfl, rfl, hB⟩ := hrel
    have HB := Lib.hid hB
    by_cases hlt : l < m
    · obtain ⟨b, off, rfl, hb, hc⟩ := H.out.open (by omega)
      obtain ⟨k, hk⟩ : ∃ k, k = l + (m - l) / 2 := ⟨_, rfl⟩
      have hk1 : l ≤ k := by omega
      have hk2 : k < m := by omega
      have c0 := (hB.cell (p := ⟨b, off + k * 2, none⟩) hb).trans (hc k (by omega)).1
      have c1 := (hB.cell (p := ⟨b, off + k * 2 + 1, none⟩) hb).trans (hc k (by omega)).2
      have hi := HI.out k (by omega)
      obtain ⟨x, hx⟩ : ∃ x, x = g[k].1 := ⟨_, rfl⟩
      obtain ⟨y, hy⟩ : ∃ y, y = g[k].2 := ⟨_, rfl⟩
      rw [← hx] at c0 hi; rw [← hy] at c1
      rw [hk] at c0 c1
      have HK := Lib.hid hk
      clear hc hB hx hy hk
      have hzz := HB.out.size
      by_cases hlp : k < P
      · rw [decide_eq_true hlp] at hi
        have hi' : Op.bytesLess x.toList n.toList = true := hi
        clear hi
        go_wp2_with fail
        refine (nameOf_any _ _ _).mono ?_; rintro e w3 ⟨rfl, hb3⟩
        have HB3 := Lib.hid (HB.out.step hb3 hzz)
        clear hb3
        go_wp2_with fail
        go_roundw
        case rel => exact ⟨k + 1, m, by omega, by omega, by omega, by have := HK.out; congr 1; omega, rfl, HB3.out⟩
        case measure => have := HK.out; simp [intOf]; omega
      · rw [decide_eq_false hlp] at hi
        have hi' : Op.bytesLess x.toList n.toList = false := hi
        clear hi
        go_wp2_with fail
        refine (nameOf_any _ _ _).mono ?_; rintro e w3 ⟨rfl, hb3⟩
        have HB3 := Lib.hid (HB.out.step hb3 hzz)
        clear hb3
        go_wp2_with fail
        go_roundw
        case rel => exact ⟨l, k, by omega, by omega, by omega, rfl, by have := HK.out; congr 1; omega, HB3.out⟩
        case measure => have := HK.out; simp [intOf]; omega
    · obtain rfl : l = P := by omega
      obtain rfl : m = l := by omega
      by_cases hpg : m < g.length
      · obtain ⟨b, off, rfl, hb, hc⟩ := H.out.open (by omega)
        have c0 := (hB.cell (p := ⟨b, off + m * 2, none⟩) hb).trans (hc m hpg).1
        have c1 := (hB.cell (p := ⟨b, off + m * 2 + 1, none⟩) hb).trans (hc m hpg).2
        have hth := there_at (g := g) (n := n) (by rw [← HP.out]; exact hpg)
        have hgm : g[place g n]'(by rw [← HP.out]; exact hpg) = g[m] := by congr 1; exact HP.out.symm
        rw [hgm] at hth
        obtain ⟨x, hx⟩ : ∃ x, x = g[m].1 := ⟨_, rfl⟩
        obtain ⟨y, hy⟩ : ∃ y, y = g[m].2 := ⟨_, rfl⟩
        rw [← hx] at c0 hth; rw [← hy] at c1
        have HTH := Lib.hid hth
        clear hc hB hx hy hgm hth
        have hzz := HB.out.size
        go_wp2_with fail
        refine (nameOf_any _ _ _).mono ?_; rintro e w3 ⟨rfl, hb3⟩
        have HB3 := Lib.hid (HB.out.step hb3 hzz)
        clear hb3
        go_wp2_with fail
        go_ret2
        exact ⟨by rw [HTH.out, ← HP.out]; rfl, HB3.out⟩
      · have hth := there_out (g := g) (n := n) (by rw [← HP.out]; exact hpg)
        have HTH := Lib.hid hth
        have hd : decide (m < g.length) = false := by simpa using hpg
        clear hB hth
        go_wp2_with fail
        go_ret2
        exact ⟨by rw [HTH.out, ← HP.out]; rfl, HB.out⟩
end Go.Proofs.Ytjckfdpkcaloiaa
