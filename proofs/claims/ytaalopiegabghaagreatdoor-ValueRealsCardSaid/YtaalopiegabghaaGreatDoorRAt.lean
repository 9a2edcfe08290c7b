/- Package real: its answers, as plain functions. -/
import Derived.Test.YtaalopiegabghaaGreatDoorRReal
namespace Go.Proofs.YtaalopiegabghaaGreatDoor
open Go.RowKit Go.Lib Go.WideShapes

def allD (l : Bs) : Bool := l.all fun c => decide (isDg c)
def cS (l : Bs) : Bs := match numB l with
  | some n => canonB n
  | none => []
def cE (l : Bs) : Int := if (numB l).isSome = true then 0 else 9
def zC (l r : Bs) : Int := match numB l, numB r with
  | some n, some m => n.cmp m
  | _, _ => 0
def zE (l r : Bs) : Int := if ((numB l).isSome && (numB r).isSome) = true then 0 else 9
def bB (v a b : Bs) : Bool := ((numB v).isSome && (numB a).isSome && (numB b).isSome) && (decide (0 ≤ zC v a) && decide (zC v b ≤ 0))
def bE (v a b : Bs) : Int := if ((numB v).isSome && (numB a).isSome && (numB b).isSome) = true then 0 else 9
theorem canonV_eq (l : Bs) : canonV l = .tuple #[.string ⟨(cS l).toArray⟩, .int .i64 (cE l)] := by
  unfold canonV cS cE
  cases numB l <;> rfl
theorem cmpV_eq (l r : Bs) : cmpV l r = .tuple #[.int .i64 (zC l r), .int .i64 (zE l r)] := by
  unfold cmpV zC zE
  cases numB l <;> cases numB r <;> rfl
theorem cmp_range (n m : Num) : -1 ≤ n.cmp m ∧ n.cmp m ≤ 1 := by
  unfold Num.cmp
  split
  · decide
  · split <;> decide
theorem zC_range (l r : Bs) : -1 ≤ zC l r ∧ zC l r ≤ 1 := by
  unfold zC
  cases numB l <;> cases numB r <;> first | exact cmp_range _ _ | exact ⟨show (-1 : Int) ≤ 0 by decide, show (0 : Int) ≤ 1 by decide⟩
theorem cmpV_left {l : Bs} (r : Bs) (h : numB l = none) : cmpV l r = .tuple #[.int .i64 0, .int .i64 9] := by
  unfold cmpV; rw [h]
theorem cmpV_right (l : Bs) {r : Bs} (h : numB r = none) : cmpV l r = .tuple #[.int .i64 0, .int .i64 9] := by
  unfold cmpV; rw [h]; cases numB l <;> rfl
theorem cmpV_both {l r : Bs} {n m : Num} (h : numB l = some n) (h' : numB r = some m) : cmpV l r = .tuple #[.int .i64 (n.cmp m), .int .i64 0] := by
  unfold cmpV; rw [h, h']
def betV (v a b : Bs) : Value := .tuple #[.bool (bB v a b), .int .i64 (bE v a b)]
theorem canon_at (s : ByteArray) (w : World) (hT : Tabs w) (hw : 1 ≤ w.heap.size) (hs : s.size ≤ 1000000) :
    Calls Tryz.prog 9 #[.string s] w fun e w' => e = .returned (.tuple #[.string ⟨(cS (bytes s)).toArray⟩, .int .i64 (cE (bytes s))]) ∧ Below w.heap.size w w' := by
  rw [← canonV_eq]; exact canon_any s w hT hw hs
theorem cmp_at (s t : ByteArray) (w : World) (hT : Tabs w) (hs : s.size ≤ 1000000) (ht : t.size ≤ 1000000) :
    Calls Tryz.prog 8 #[.string s, .string t] w fun e w' => e = .returned (.tuple #[.int .i64 (zC (bytes s) (bytes t)), .int .i64 (zE (bytes s) (bytes t))]) ∧ Below w.heap.size w w' := by
  rw [← cmpV_eq]; exact cmp_any s t w hT hs ht
set_option maxHeartbeats 4000000 in
theorem between_at (v a b : ByteArray) (w : World) (hT : Tabs w) (hv : v.size ≤ 1000000) (ha : a.size ≤ 1000000) (hb : b.size ≤ 1000000) :
    Calls Tryz.prog 11 #[.string v, .string a, .string b] w fun e w' => e = .returned (.tuple #[.bool (bB (bytes v) (bytes a) (bytes b)), .int .i64 (bE (bytes v) (bytes a) (bytes b))]) ∧ Below w.heap.size w w' := by
  have HCa := Lib.hid (cmp_at v a w hT hv ha)
  have HCb := Lib.hid (fun W hT => cmp_at v b W hT hv hb)
  have HT := Lib.hid hT
  have hr1 := zC_range (bytes v) (bytes a)
  have hr2 := zC_range (bytes v) (bytes b)
  unfold bB bE
  unfold zE at HCa HCb
  generalize zC (bytes v) (bytes a) = p at HCa hr1 ⊢
  generalize zC (bytes v) (bytes b) = q at HCb hr2 ⊢
  generalize (numB (bytes v)).isSome = nv at HCa HCb ⊢
  generalize (numB (bytes a)).isSome = na at HCa ⊢
  generalize (numB (bytes b)).isSome = nb at HCb ⊢
  obtain ⟨ea, hea⟩ : ∃ e : Int, e = (if (nv && na) = true then 0 else 9) := ⟨_, rfl⟩
  obtain ⟨eb, heb⟩ : ∃ e : Int, e = (if (nv && nb) = true then 0 else 9) := ⟨_, rfl⟩
  rw [← hea] at HCa
  rw [← heb] at HCb
  obtain ⟨R, hR⟩ : ∃ R : Value, R = .tuple #[.bool ((nv && na && nb) && (decide (0 ≤ p) && decide (q ≤ 0))), .int .i64 (if (nv && na && nb) = true then 0 else 9)] := ⟨_, rfl⟩
  rw [← hR]
  have HR := Lib.hid hR
  clear hR hT
  have hE : (ea = 9 ∧ Hid (R = .tuple #[.bool false, .int .i64 9])) ∨ (ea = 0 ∧ eb = 9 ∧ Hid (R = .tuple #[.bool false, .int .i64 9])) ∨ (ea = 0 ∧ eb = 0 ∧ Hid (R = .tuple #[.bool (decide (0 ≤ p) && decide (q ≤ 0)), .int .i64 0])) := by
    have h := HR.out
    cases nv
    · exact .inl ⟨hea, Lib.hid (by rw [h]; rfl)⟩
    · cases na
      · exact .inl ⟨hea, Lib.hid (by rw [h]; rfl)⟩
      · cases nb
        · exact .inr (.inl ⟨hea, heb, Lib.hid (by rw [h]; rfl)⟩)
        · exact .inr (.inr ⟨hea, heb, Lib.hid (by rw [h]; rfl)⟩)
  clear hea heb HR
  rcases hE with ⟨rfl, HR⟩ | ⟨rfl, rfl, HR⟩ | ⟨rfl, rfl, HR⟩
  · go_enter Tryz.func11, Tryz.ntmps11
    go_wp2_with fail
    refine HCa.out.mono ?_; rintro e w1 ⟨rfl, hb1⟩
    have H1 := Lib.hid hb1
    clear hb1
    go_wp2_with fail
    go_ret2
    exact ⟨by rw [HR.out]; rfl, H1.out⟩
  · go_enter Tryz.func11, Tryz.ntmps11
    go_wp2_with fail
    refine HCa.out.mono ?_; rintro e w1 ⟨rfl, hb1⟩
    have H1 := Lib.hid hb1
    have HC2 := Lib.hid (HCb.out w1 (HT.out.step hb1))
    clear hb1
    go_wp2_with fail
    refine HC2.out.mono ?_; rintro e w2 ⟨rfl, hb2⟩
    have H2 := Lib.hid (H1.out.on hb2)
    clear hb2
    go_wp2_with fail
    go_ret2
    exact ⟨by rw [HR.out]; rfl, H2.out⟩
  · by_cases h1 : 0 ≤ p
    · rw [decide_eq_true h1] at HR
      go_enter Tryz.func11, Tryz.ntmps11
      go_wp2_with fail
      refine HCa.out.mono ?_; rintro e w1 ⟨rfl, hb1⟩
      have H1 := Lib.hid hb1
      have HC2 := Lib.hid (HCb.out w1 (HT.out.step hb1))
      clear hb1
      go_wp2_with fail
      refine HC2.out.mono ?_; rintro e w2 ⟨rfl, hb2⟩
      have H2 := Lib.hid (H1.out.on hb2)
      clear hb2
      go_wp2_with fail
      go_ret2
      exact ⟨by rw [HR.out]; rfl, H2.out⟩
    · rw [decide_eq_false h1] at HR
      have h1' : p < 0 := by omega
      clear h1
      go_enter Tryz.func11, Tryz.ntmps11
      go_wp2_with fail
      refine HCa.out.mono ?_; rintro e w1 ⟨rfl, hb1⟩
      have H1 := Lib.hid hb1
      have HC2 := Lib.hid (HCb.out w1 (HT.out.step hb1))
      clear hb1
      go_wp2_with fail
      refine HC2.out.mono ?_; rintro e w2 ⟨rfl, hb2⟩
      have H2 := Lib.hid (H1.out.on hb2)
      clear hb2
      go_wp2_with fail
      go_ret2
      exact ⟨by rw [HR.out]; rfl, H2.out⟩

end Go.Proofs.YtaalopiegabghaaGreatDoor
