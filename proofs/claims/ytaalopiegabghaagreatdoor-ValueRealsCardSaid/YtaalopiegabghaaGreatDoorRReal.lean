/- Package real: the form of a number, and the order of two. -/
import Derived.Test.YtaalopiegabghaaGreatDoorRNumber
import Derived.Test.YtaalopiegabghaaGreatDoorRCanon
import Derived.Test.YtaalopiegabghaaGreatDoorFOut
namespace Go.Proofs.YtaalopiegabghaaGreatDoor
open Go.RowKit Go.Lib Go.WideShapes

def Num.isNan : Num → Bool
  | .nan => true
  | _ => false
theorem nan_iff {n : Num} : n.isNan = true ↔ n = .nan := by cases n <;> simp [Num.isNan]
theorem not_nan {n : Num} (h : n.isNan = false) : n ≠ .nan := by rintro rfl; cases h
theorem order_nan {n m : Num} {b c : Nat} (h : FloatIs n b) (h' : FloatIs m c) (hn : n.isNan = true) : FloatKind.f64.format.order b c = none := by
  rw [nan_iff] at hn; subst hn
  exact order_of h h'
theorem order_num {n m : Num} {b c : Nat} (h : FloatIs n b) (h' : FloatIs m c) (hn : n.isNan = false) (hm : m.isNan = false) : FloatKind.f64.format.order b c = some (compare n.key m.key) := by
  have := order_of h h'
  cases n <;> cases m <;> first | (cases hn; done) | (cases hm; done) | exact this
theorem order_neq {n : Num} {b : Nat} (h : FloatIs n b) : (FloatKind.f64.format.order b b != some .eq) = n.isNan := by
  cases hn : n.isNan with
  | true => rw [order_nan h h hn]; rfl
  | false =>
    rw [order_num h h hn hn]
    have : compare n.key n.key = .eq := by
      show compareOfLessAndEq n.key n.key = _
      unfold compareOfLessAndEq
      rw [if_neg (by omega), if_pos rfl]
    rw [this]; rfl
theorem order_lss {n m : Num} {b c : Nat} (h : FloatIs n b) (h' : FloatIs m c) (hn : n.isNan = false) (hm : m.isNan = false) : (FloatKind.f64.format.order b c == some .lt) = decide (n.key < m.key) := by
  rw [order_num h h' hn hm]
  by_cases hl : n.key < m.key
  · rw [cmp_lt hl, decide_eq_true hl]; rfl
  · rw [decide_eq_false hl]
    by_cases hg : m.key < n.key
    · rw [cmp_gt hg]; rfl
    · have : compare n.key m.key = .eq := by
        show compareOfLessAndEq n.key m.key = _
        unfold compareOfLessAndEq
        rw [if_neg hl, if_pos (by omega)]
      rw [this]; rfl
theorem order_gtr {n m : Num} {b c : Nat} (h : FloatIs n b) (h' : FloatIs m c) (hn : n.isNan = false) (hm : m.isNan = false) : (FloatKind.f64.format.order b c == some .gt) = decide (m.key < n.key) := by
  rw [order_num h h' hn hm]
  by_cases hl : n.key < m.key
  · rw [cmp_lt hl, decide_eq_false (by omega)]; rfl
  · by_cases hg : m.key < n.key
    · rw [cmp_gt hg, decide_eq_true hg]; rfl
    · rw [decide_eq_false hg]
      have : compare n.key m.key = .eq := by
        show compareOfLessAndEq n.key m.key = _
        unfold compareOfLessAndEq
        rw [if_neg hl, if_pos (by omega)]
      rw [this]; rfl
theorem opp_is {n : Num} {b : Nat} (h : FloatIs n b) (hn : n.isNan = false) : FloatIs n.opp (Op.negFloat .f64 b) := by
  cases n with
  | nan => cases hn
  | inf s =>
    cases s with
    | false => rw [show b = _ from h]; show _ = _; decide
    | true => rw [show b = _ from h]; show _ = _; decide
  | fin s X => exact flt_opp h
theorem opp_nan {n : Num} : n.opp.isNan = n.isNan := by cases n <;> rfl
theorem order_top {n : Num} {b : Nat} (h : FloatIs n b) (hn : n.isNan = false) : (FloatKind.f64.format.order b 9218868437227405311 == some .gt) = n.top := order_max h (not_nan hn)

set_option maxHeartbeats 4000000 in
theorem isnan_any (n : Num) (b : Nat) (w : World) (h : FloatIs n b) : Calls Tryz.prog 22 #[.float .f64 b] w fun e w' => e = .returned (.bool n.isNan) ∧ w = w' := by
  have ho := order_neq h
  clear h
  generalize n.isNan = R at ho ⊢
  go_enter Tryz.func22, Tryz.ntmps22
  go_wp2_with fail
  go_ret
  exact ⟨rfl, rfl⟩
theorem isinfp_any (n : Num) (b : Nat) (w : World) (h : FloatIs n b) (hn : n.isNan = false) : Calls Tryz.prog 23 #[.float .f64 b, .int .i64 1] w fun e w' => e = .returned (.bool n.top) ∧ w = w' := by
  have ho := order_top h hn
  clear h hn
  generalize n.top = R at ho ⊢
  go_enter Tryz.func23, Tryz.ntmps23
  go_wp2_with fail
  go_ret
  exact ⟨rfl, rfl⟩
theorem isinfn_any (n : Num) (b : Nat) (w : World) (h : FloatIs n b) (hn : n.isNan = false) : Calls Tryz.prog 23 #[.float .f64 b, .int .i64 (-1)] w fun e w' => e = .returned (.bool n.opp.top) ∧ w = w' := by
  have ho := order_top (opp_is h hn) (by rw [opp_nan]; exact hn)
  clear h hn
  generalize n.opp.top = R at ho ⊢
  have hrn : ∀ w, (Op.unary UnOp.neg (.float .f64 b)).run Tryz.prog w = .ok (.float .f64 (Op.negFloat .f64 b)) w := fun _ => rfl
  generalize Op.negFloat .f64 b = c at ho hrn
  go_enter Tryz.func23, Tryz.ntmps23
  go_wp2_with fail
  go_ret
  exact ⟨rfl, rfl⟩

set_option maxHeartbeats 4000000 in
theorem form_any (n : Num) (b : Nat) (w : World) (hT : Tabs w) (hw : 1 ≤ w.heap.size) (h : FloatIs n b) :
    Calls Tryz.prog 15 #[.float .f64 b] w fun e w' => e = .returned (.string ⟨(canonB n).toArray⟩) ∧ Below w.heap.size w w' := by
  have HN := Lib.hid (fun W => isnan_any n b W h)
  cases n with
  | nan =>
    rw [show Num.nan.isNan = true from rfl] at HN
    rw [show canonB .nan = [78, 97, 78] from rfl]
    clear h
    go_enter Tryz.func15, Tryz.ntmps15
    go_wp2_with fail
    refine (HN.out _).mono ?_; rintro e w1 ⟨rfl, rfl⟩
    go_wp2_with fail
    go_ret
    exact ⟨rfl, Below.refl _ _⟩
  | inf s =>
    have HP := Lib.hid (fun W => isinfp_any (.inf s) b W h rfl)
    have HM := Lib.hid (fun W => isinfn_any (.inf s) b W h rfl)
    rw [show (Num.inf s).isNan = false from rfl] at HN
    cases s with
    | false =>
      rw [show (Num.inf false).top = true from rfl] at HP
      rw [show canonB (.inf false) = [73, 110, 102, 105, 110, 105, 116, 121] from rfl]
      clear h
      go_enter Tryz.func15, Tryz.ntmps15
      go_wp2_with fail
      refine (HN.out _).mono ?_; rintro e w1 ⟨rfl, rfl⟩
      go_wp2_with fail
      refine (HP.out _).mono ?_; rintro e w1 ⟨rfl, rfl⟩
      go_wp2_with fail
      go_ret
      exact ⟨rfl, Below.refl _ _⟩
    | true =>
      rw [show (Num.inf true).top = false from rfl] at HP
      rw [show (Num.inf true).opp.top = true from rfl] at HM
      rw [show canonB (.inf true) = [45, 73, 110, 102, 105, 110, 105, 116, 121] from rfl]
      clear h
      go_enter Tryz.func15, Tryz.ntmps15
      go_wp2_with fail
      refine (HN.out _).mono ?_; rintro e w1 ⟨rfl, rfl⟩
      go_wp2_with fail
      refine (HP.out _).mono ?_; rintro e w1 ⟨rfl, rfl⟩
      go_wp2_with fail
      refine (HM.out _).mono ?_; rintro e w1 ⟨rfl, rfl⟩
      go_wp2_with fail
      go_ret
      exact ⟨rfl, Below.refl _ _⟩
  | fin s X =>
    have HP := Lib.hid (fun W => isinfp_any (.fin s X) b W h rfl)
    have HM := Lib.hid (fun W => isinfn_any (.fin s X) b W h rfl)
    rw [show (Num.fin s X).isNan = false from rfl] at HN
    rw [show (Num.fin s X).top = false from rfl] at HP
    rw [show (Num.fin s X).opp.top = false from (by cases s <;> rfl)] at HM
    have HF := Lib.hid (formatfloat w s X b hT hw h)
    rw [show canonB (.fin s X) = milText s X from rfl]
    obtain ⟨R, hR⟩ : ∃ R, R = milText s X := ⟨_, rfl⟩
    rw [← hR] at HF ⊢
    clear h hR
    go_enter Tryz.func15, Tryz.ntmps15
    go_wp2_with fail
    refine (HN.out _).mono ?_; rintro e w1 ⟨rfl, rfl⟩
    go_wp2_with fail
    refine (HP.out _).mono ?_; rintro e w1 ⟨rfl, rfl⟩
    go_wp2_with fail
    refine (HM.out _).mono ?_; rintro e w1 ⟨rfl, rfl⟩
    go_wp2_with fail
    refine HF.out.mono ?_; rintro e w1 ⟨rfl, hb⟩
    go_wp2_with fail
    go_ret
    exact ⟨rfl, hb⟩

theorem key_nan {n : Num} (hn : n.isNan = true) : n.key = 2000000000000000 := by rw [nan_iff] at hn; subst hn; rfl
theorem key_lt {n : Num} (ho : n.ok) (hn : n.isNan = false) : n.key < 2000000000000000 := by
  cases n with
  | nan => cases hn
  | inf s => cases s <;> (show (_ : Int) < _; decide)
  | fin s X =>
    have h : X < 1000000000000000 := ho
    cases s
    · show (X : Int) < _; omega
    · show -(X : Int) < _; omega
set_option maxHeartbeats 4000000 in
theorem compare_any (n m : Num) (b c : Nat) (w : World) (h : FloatIs n b) (h' : FloatIs m c) (hno : n.ok) (hmo : m.ok) :
    Calls Tryz.prog 14 #[.float .f64 b, .float .f64 c] w fun e w' => e = .returned (.int .i64 (n.cmp m)) ∧ w = w' := by
  have HN := Lib.hid (fun W => isnan_any n b W h)
  have HM := Lib.hid (fun W => isnan_any m c W h')
  unfold Num.cmp
  cases hn : n.isNan with
  | true =>
    rw [hn] at HN
    cases hm : m.isNan with
    | true =>
      rw [hm] at HM
      rw [key_nan hn, key_nan hm, if_neg (by decide), if_neg (by decide)]
      clear h h' hno hmo hn hm
      go_enter Tryz.func14, Tryz.ntmps14
      go_wp2_with fail
      refine (HN.out _).mono ?_; rintro e w1 ⟨rfl, rfl⟩
      go_wp2_with fail
      refine (HM.out _).mono ?_; rintro e w1 ⟨rfl, rfl⟩
      go_wp2_with fail
      go_ret
      exact ⟨rfl, rfl⟩
    | false =>
      rw [hm] at HM
      have := key_lt hmo hm
      rw [key_nan hn, if_neg (by omega), if_pos (by omega)]
      clear h h' hno hmo hn hm this
      go_enter Tryz.func14, Tryz.ntmps14
      go_wp2_with fail
      refine (HN.out _).mono ?_; rintro e w1 ⟨rfl, rfl⟩
      go_wp2_with fail
      refine (HM.out _).mono ?_; rintro e w1 ⟨rfl, rfl⟩
      go_wp2_with fail
      refine (HN.out _).mono ?_; rintro e w1 ⟨rfl, rfl⟩
      go_wp2_with fail
      go_ret
      exact ⟨rfl, rfl⟩
  | false =>
    rw [hn] at HN
    cases hm : m.isNan with
    | true =>
      rw [hm] at HM
      have := key_lt hno hn
      rw [key_nan hm, if_pos (by omega)]
      clear h h' hno hmo hn hm this
      go_enter Tryz.func14, Tryz.ntmps14
      go_wp2_with fail
      refine (HN.out _).mono ?_; rintro e w1 ⟨rfl, rfl⟩
      go_wp2_with fail
      refine (HN.out _).mono ?_; rintro e w1 ⟨rfl, rfl⟩
      go_wp2_with fail
      refine (HM.out _).mono ?_; rintro e w1 ⟨rfl, rfl⟩
      go_wp2_with fail
      go_ret
      exact ⟨rfl, rfl⟩
    | false =>
      rw [hm] at HM
      have hl := order_lss h h' hn hm
      have hg := order_gtr h h' hn hm
      obtain ⟨p, hp⟩ : ∃ p, p = n.key := ⟨_, rfl⟩
      obtain ⟨q, hq⟩ : ∃ q, q = m.key := ⟨_, rfl⟩
      rw [← hp, ← hq] at hl hg ⊢
      clear h h' hno hmo hn hm hp hq
      by_cases h1 : p < q
      · rw [decide_eq_true h1] at hl
        rw [if_pos h1]
        clear hg h1
        go_enter Tryz.func14, Tryz.ntmps14
        go_wp2_with fail
        refine (HN.out _).mono ?_; rintro e w1 ⟨rfl, rfl⟩
        go_wp2_with fail
        refine (HN.out _).mono ?_; rintro e w1 ⟨rfl, rfl⟩
        go_wp2_with fail
        refine (HM.out _).mono ?_; rintro e w1 ⟨rfl, rfl⟩
        go_wp2_with fail
        go_ret
        exact ⟨rfl, rfl⟩
      · rw [decide_eq_false h1] at hl
        rw [if_neg h1]
        by_cases h2 : q < p
        · rw [decide_eq_true h2] at hg
          rw [if_pos h2]
          clear h1 h2
          go_enter Tryz.func14, Tryz.ntmps14
          go_wp2_with fail
          refine (HN.out _).mono ?_; rintro e w1 ⟨rfl, rfl⟩
          go_wp2_with fail
          refine (HN.out _).mono ?_; rintro e w1 ⟨rfl, rfl⟩
          go_wp2_with fail
          refine (HM.out _).mono ?_; rintro e w1 ⟨rfl, rfl⟩
          go_wp2_with fail
          go_ret
          exact ⟨rfl, rfl⟩
        · rw [decide_eq_false h2] at hg
          rw [if_neg h2]
          clear h1 h2
          go_enter Tryz.func14, Tryz.ntmps14
          go_wp2_with fail
          refine (HN.out _).mono ?_; rintro e w1 ⟨rfl, rfl⟩
          go_wp2_with fail
          refine (HN.out _).mono ?_; rintro e w1 ⟨rfl, rfl⟩
          go_wp2_with fail
          refine (HM.out _).mono ?_; rintro e w1 ⟨rfl, rfl⟩
          go_wp2_with fail
          go_ret
          exact ⟨rfl, rfl⟩

/-- What a text's form is, or what is wrong. -/
def canonV (l : Bs) : Value := match numB l with
  | some n => .tuple #[.string ⟨(canonB n).toArray⟩, .int .i64 0]
  | none => .tuple #[.string { data := #[] }, .int .i64 9]
theorem canonV_some {l : Bs} {n : Num} (h : numB l = some n) : canonV l = .tuple #[.string ⟨(canonB n).toArray⟩, .int .i64 0] := by unfold canonV; rw [h]
theorem canonV_none {l : Bs} (h : numB l = none) : canonV l = .tuple #[.string { data := #[] }, .int .i64 9] := by unfold canonV; rw [h]
set_option maxHeartbeats 4000000 in
theorem canon_any (s : ByteArray) (w : World) (hT : Tabs w) (hw : 1 ≤ w.heap.size) (hs : s.size ≤ 1000000) :
    Calls Tryz.prog 9 #[.string s] w fun e w' => e = .returned (canonV (bytes s)) ∧ Below w.heap.size w w' := by
  have HNu := Lib.hid (number_any s w hT hs)
  have HT := Lib.hid hT
  cases hn : numB (bytes s) with
  | none =>
    rw [hn] at HNu
    rw [canonV_none hn]
    clear hT hn
    go_enter Tryz.func9, Tryz.ntmps9
    go_wp2_with fail
    refine HNu.out.mono ?_; rintro e w1 ⟨b, hb, rfl, hb1⟩
    have H1 := Lib.hid hb1
    clear hb hb1
    go_wp2_with fail
    go_ret2
    exact ⟨rfl, H1.out⟩
  | some n =>
    rw [hn] at HNu
    rw [canonV_some hn]
    have HFm := Lib.hid (fun W b hT hw h => form_any n b W hT hw h)
    obtain ⟨R, hR⟩ : ∃ R, R = canonB n := ⟨_, rfl⟩
    rw [← hR] at HFm ⊢
    clear hT hn hR
    go_enter Tryz.func9, Tryz.ntmps9
    go_wp2_with fail
    refine HNu.out.mono ?_; rintro e w1 ⟨b, hb, rfl, hb1⟩
    have H1 := Lib.hid hb1
    have HF1 := Lib.hid (HFm.out w1 b (HT.out.step hb1) (Nat.le_trans hw hb1.size) (hb n rfl))
    clear hb hb1
    go_wp2_with fail
    refine HF1.out.mono ?_; rintro e w2 ⟨rfl, hb2⟩
    have H2 := Lib.hid (H1.out.on hb2)
    clear hb2
    go_wp2_with fail
    go_ret2
    exact ⟨rfl, H2.out⟩
/-- Which of two is greater, or what is wrong. -/
def cmpV (l r : Bs) : Value := match numB l, numB r with
  | some n, some m => .tuple #[.int .i64 (n.cmp m), .int .i64 0]
  | _, _ => .tuple #[.int .i64 0, .int .i64 9]
theorem num_okB {l : Bs} {n : Num} (h : numB l = some n) : n.ok := num_ok h
set_option maxHeartbeats 4000000 in
theorem cmp_any (s t : ByteArray) (w : World) (hT : Tabs w) (hs : s.size ≤ 1000000) (ht : t.size ≤ 1000000) :
    Calls Tryz.prog 8 #[.string s, .string t] w fun e w' => e = .returned (cmpV (bytes s) (bytes t)) ∧ Below w.heap.size w w' := by
  have HNu := Lib.hid (number_any s w hT hs)
  have HNt := Lib.hid (fun W hT => number_any t W hT ht)
  have HT := Lib.hid hT
  have hno : ∀ n, numB (bytes s) = some n → n.ok := fun n h => num_okB h
  have hmo : ∀ n, numB (bytes t) = some n → n.ok := fun n h => num_okB h
  unfold cmpV
  generalize numB (bytes s) = n at HNu hno ⊢
  generalize numB (bytes t) = m at HNt hmo ⊢
  clear hT
  cases n with
  | none =>
    obtain ⟨V, hV⟩ : ∃ V, V = (match (none : Option Num), m with | some n, some m => Value.tuple #[.int .i64 (n.cmp m), .int .i64 0] | _, _ => .tuple #[.int .i64 0, .int .i64 9]) := ⟨_, rfl⟩
    rw [← hV]
    have hV2 : V = Value.tuple #[.int .i64 0, .int .i64 9] := by rw [hV]
    subst hV2
    clear hV hno hmo
    generalize m.isSome = ok2
    go_enter Tryz.func8, Tryz.ntmps8
    go_wp2_with fail
    refine HNu.out.mono ?_; rintro e w1 ⟨b, hb, rfl, hb1⟩
    have H1 := Lib.hid hb1
    have HN2 := Lib.hid (HNt.out w1 (HT.out.step hb1))
    clear hb hb1
    go_wp2_with fail
    refine HN2.out.mono ?_; rintro e w2 ⟨c, hc, rfl, hb2⟩
    have H2 := Lib.hid (H1.out.on hb2)
    clear hc hb2
    go_wp2_with fail
    go_ret2
    exact ⟨rfl, H2.out⟩
  | some n =>
    cases m with
    | none =>
      clear hno hmo
      simp only
      go_enter Tryz.func8, Tryz.ntmps8
      go_wp2_with fail
      refine HNu.out.mono ?_; rintro e w1 ⟨b, hb, rfl, hb1⟩
      have H1 := Lib.hid hb1
      have HN2 := Lib.hid (HNt.out w1 (HT.out.step hb1))
      clear hb hb1
      go_wp2_with fail
      refine HN2.out.mono ?_; rintro e w2 ⟨c, hc, rfl, hb2⟩
      have H2 := Lib.hid (H1.out.on hb2)
      clear hc hb2
      go_wp2_with fail
      go_ret2
      exact ⟨rfl, H2.out⟩
    | some m =>
      simp only
      have HC := Lib.hid (fun W b c h h' => compare_any n m b c W h h' (hno n rfl) (hmo m rfl))
      obtain ⟨k, hk⟩ : ∃ k, k = n.cmp m := ⟨_, rfl⟩
      rw [← hk] at HC ⊢
      clear hno hmo hk
      go_enter Tryz.func8, Tryz.ntmps8
      go_wp2_with fail
      refine HNu.out.mono ?_; rintro e w1 ⟨b, hb, rfl, hb1⟩
      have H1 := Lib.hid hb1
      have HN2 := Lib.hid (HNt.out w1 (HT.out.step hb1))
      have HB := Lib.hid (hb n rfl)
      clear hb hb1
      go_wp2_with fail
      refine HN2.out.mono ?_; rintro e w2 ⟨c, hc, rfl, hb2⟩
      have H2 := Lib.hid (H1.out.on hb2)
      have HC2 := Lib.hid (HC.out w2 b c HB.out (hc m rfl))
      clear hc hb2
      go_wp2_with fail
      refine HC2.out.mono ?_; rintro e w3 ⟨rfl, rfl⟩
      go_wp2_with fail
      go_ret2
      exact ⟨rfl, H2.out⟩
end Go.Proofs.YtaalopiegabghaaGreatDoor
