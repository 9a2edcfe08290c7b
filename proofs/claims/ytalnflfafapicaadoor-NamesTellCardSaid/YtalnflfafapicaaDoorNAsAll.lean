/- The tokens, as the document has them. -/
import Derived.Test.YtalnflfafapicaaDoorNToks
namespace Go.Proofs.YtalnflfafapicaaDoor
open Go.RowKit Go.Lib Go.WideShapes

/-- Tokens with their places, any numbers. -/
abbrev Tk := Tok × Int × Int
def tkC : List Tk → List Value
  | [] => []
  | t :: r => .int .u8 (t.1.kind.toNat : Nat) :: .string ⟨t.1.text.toArray⟩ :: .int .i64 t.2.1 :: .int .i64 t.2.2 :: tkC r
theorem tkC_snoc (l : List Tk) (t : Tk) : tkC (l ++ [t]) = tkC l ++ [.int .u8 (t.1.kind.toNat : Nat), .string ⟨t.1.text.toArray⟩, .int .i64 t.2.1, .int .i64 t.2.2] := by
  induction l with
  | nil => rfl
  | cons a l ih => rw [List.cons_append, tkC, ih]; rfl
theorem tkC_length (l : List Tk) : (tkC l).length = l.length * 4 := by
  induction l with
  | nil => rfl
  | cons a l ih => rw [tkC]; simp only [List.length_cons, ih]; omega
theorem tkC_at : ∀ (l : List Tk) (i : Nat) (t : Tk), l[i]? = some t → (tkC l)[i * 4]? = some (.int .u8 (t.1.kind.toNat : Nat)) ∧ (tkC l)[i * 4 + 1]? = some (.string ⟨t.1.text.toArray⟩) ∧ (tkC l)[i * 4 + 2]? = some (.int .i64 t.2.1) ∧ (tkC l)[i * 4 + 3]? = some (.int .i64 t.2.2) := by
  intro l
  induction l with
  | nil => intro i t h; simp at h
  | cons a l ih =>
    intro i t h
    cases i with
    | zero =>
      obtain rfl : a = t := Option.some.inj h
      exact ⟨rfl, rfl, rfl, rfl⟩
    | succ i =>
      obtain ⟨h0, h1, h2, h3⟩ := ih i t h
      rw [show (i + 1) * 4 = i * 4 + 1 + 1 + 1 + 1 by omega]
      exact ⟨h0, h1, h2, h3⟩

theorem own_tokw {w : World} {B n : Nat} {v : Value} {R : List Tk} (h : w.ownsRow B 45 4 v n (tkC R)) (hl : R.length = n) : ∃ p c, v = .slice p n c ∧ TokW w p (R.map (·.1)) := by
  rcases h.2 with ⟨rfl, h0⟩ | ⟨g, cap, cur, rfl, hb, hg, hn, hc, hcs, ht⟩
  · subst h0
    obtain rfl := List.length_eq_zero_iff.1 hl
    exact ⟨none, 0, rfl, .inl rfl⟩
  · refine ⟨some ⟨g, 0, none⟩, cap, rfl, ?_⟩
    by_cases h0 : R = []
    · subst h0; exact .inl rfl
    refine .inr ⟨g, 0, rfl, (h.lt g rfl).2, fun i q hq => ?_⟩
    rw [List.getElem?_map] at hq
    cases hr : R[i]? with
    | none => rw [hr] at hq; cases hq
    | some t =>
      rw [hr] at hq
      obtain rfl : t.1 = q := Option.some.inj hq
      obtain ⟨a0, a1, a2, a3⟩ := tkC_at R i t hr
      have hi : i < n := by rw [← hl]; exact (List.getElem?_eq_some_iff.1 hr).1
      rw [Nat.zero_add]
      refine ⟨(h.cellAt (i * 4) (by omega)).trans a0, (h.cellAt (i * 4 + 1) (by omega)).trans a1, t.2.1, t.2.2, (h.cellAt (i * 4 + 2) (by omega)).trans a2, (h.cellAt (i * 4 + 3) (by omega)).trans a3⟩

theorem info_reftoken : (Tryd.prog.info? 45).map (fun i => (i.zero, i.size, i.bytes)) = some (some (.agg #[.int .u8 0, .string { data := #[] }, .int .i64 0, .int .i64 0]), 4, 40) := by kernel_rfl

set_option maxHeartbeats 8000000 in
theorem asall_any (p : Option Addr) (T : List Tok) (n c : Nat) (w : World) (hT : T.length = n) (hn : n ≤ 1000) (hA : TokW w p T) :
    Calls Tryd.prog 12 #[.slice p n c] w fun e w' => Below w.heap.size w w' ∧ ∃ p' c', e = .returned (.slice p' n c') ∧ TokW w' p' T := by
  obtain ⟨i0, hi, y0, y1, y2⟩ := info_parts info_reftoken
  have HT := Lib.hid hT; have HA := Lib.hid hA
  clear hT hA
  go_enter Tryd.func12, Tryd.ntmps12
  go_wp2_with fail
  go_loopw [3, 4] (fun o i wr => ∃ (k : Nat) (R : List Tk), k ≤ n ∧ i = .int .i64 k ∧ R.map (·.1) = T.take k ∧ wr.ownsRow w.heap.size 45 4 o k (tkC R) ∧ Below w.heap.size w wr) (fun _ i _ => n - (RowKit.intOf i).toNat)
  case atStart => exact ⟨0, [], Nat.zero_le _, rfl, rfl, World.ownsRow_nil _ _ _ _, Below.refl _ _⟩
  case round =>
    obtain ⟨k, R, hk, rfl, hR, hO, hB⟩ := hrel
    have HO := Lib.hid hO; have HB := Lib.hid hB; have HR := Lib.hid hR
    obtain ⟨oa, oc, rfl⟩ := ownsRow_form hO
    clear hR
    by_cases hlt : k < n
    · have hlt' : (k : Int) < n := by omega
      obtain ⟨t, ht⟩ : ∃ t, T[k]? = some t := ⟨_, List.getElem?_eq_getElem (by rw [HT.out]; exact hlt)⟩
      obtain ⟨g, off, rfl, hg⟩ : ∃ g off, p = some ⟨g, off, none⟩ ∧ g < w.heap.size := by
        rcases HA.out with h | ⟨g, off, hp, hg, _⟩
        · rw [h] at ht; cases ht
        · exact ⟨g, off, hp, hg⟩
      obtain ⟨_, a0, a1, lo, hi', a2, a3⟩ := HA.out.get ht
      have a0 := (hB.cell (p := ⟨g, off + k * 4, none⟩) hg).trans a0
      have a1 := (hB.cell (p := ⟨g, off + k * 4 + 1, none⟩) hg).trans a1
      have a2 := (hB.cell (p := ⟨g, off + k * 4 + 2, none⟩) hg).trans a2
      have a3 := (hB.cell (p := ⟨g, off + k * 4 + 3, none⟩) hg).trans a3
      have HTK := Lib.hid (show (R ++ [((t, lo, hi') : Tk)]).map (·.1) = T.take (k + 1) by rw [List.map_append, HR.out, List.take_add_one, ht]; rfl)
      have HTC := Lib.hid (tkC_snoc R (t, lo, hi'))
      obtain ⟨kk, hkk⟩ : ∃ kk : Nat, kk = t.kind.toNat := ⟨_, rfl⟩
      obtain ⟨XT, hXT⟩ : ∃ XT : ByteArray, XT = ⟨t.text.toArray⟩ := ⟨_, rfl⟩
      simp only [← hkk, ← hXT] at a0 a1 HTC
      have hzz := hB.size
      clear hB hO ht hkk hXT
      go_wp2_with fail
      go_region_law (refine step_append_own rfl (.tmp 11) (.tmp 33) 29 rfl w.heap.size 45 i0 (.agg #[.int .u8 0, .string { data := #[] }, .int .i64 0, .int .i64 0]) 4 40 Tryd.underlying29 hi y0 y1 y2 rfl (by decide) (.slice oa k oc) k (tkC R) (by simp [Act.eval]) (HO.out.drew.alloc _) ⟨wr.heap.size, 0, none⟩ 1 1 [.int .u8 kk, .string XT, .int .i64 lo, .int .i64 hi'] (by simp [Act.eval]) rfl ?c1 ?c2 ?c3 ?c4 ?c5 ?_; (case c1 => (intro j u h; rw [add_plain, Nat.zero_add, ← h]; exact (World.cell?_alloc_new wr _ _ j).trans (by simp))); (case c2 => (intro u hu; simp at hu; rcases hu with rfl | rfl | rfl | rfl <;> rfl)); (case c3 => (unfold maxLen; omega)); (case c4 => omega); (case c5 => (first | omega | (simp; omega))); intro v' w5 hO5 hg5)
      all_goals
        have hB5 : Below w.heap.size w w5 := below_grown (HB.out.alloc hzz _).drew (by simp; omega) hg5 (fun k hk => (HO.out.lt k hk).1)
        have HO5 : Hid (w5.ownsRow w.heap.size 45 4 v' (k + 1) (tkC (R ++ [((t, lo, hi') : Tk)]))) := by rw [HTC.out]; exact Lib.hid hO5
        have HB5 := Lib.hid hB5
        clear hO5 hg5 hB5
        go_wp2_with fail
        go_roundw
        case rel => exact ⟨k + 1, _, by omega, by go_num, HTK.out, HO5.out, HB5.out⟩
        case measure => simp [RowKit.intOf]; omega
    · obtain rfl : k = n := by omega
      have hl : R.length = k := by have := congrArg List.length HR.out; rw [List.length_map, List.length_take, HT.out] at this; omega
      obtain ⟨p', c', he, hw⟩ := own_tokw HO.out hl
      rw [HR.out, List.take_of_length_le (by rw [HT.out]; exact Nat.le_refl _)] at hw
      simp only [Value.slice.injEq] at he
      obtain ⟨rfl, _, rfl⟩ := he
      have HW := Lib.hid hw
      clear hw hB hO hl
      go_wp2_with fail
      go_ret
      exact ⟨HB.out, _, _, rfl, HW.out⟩
end Go.Proofs.YtalnflfafapicaaDoor
