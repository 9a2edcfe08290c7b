/- Any three rows: VarsOver answers true, and leaves what was there as it was. -/
import Derived.Test.YtjckfdpkcaloiaaShown
namespace Go.Proofs.Ytjckfdpkcaloiaa
open Go.RowKit Go.Lib Go.WideShapes Go.ChangeShapes Go.ChangeAt Go.Joins

theorem merge_length (a b : Pairs) : (merge a b).length ≤ a.length + b.length := by
  induction a, b using merge.induct with
  | case1 b => rw [merge]; simp
  | case2 p a => rw [merge]; simp
  | case3 p a r b h ih => rw [merge, if_pos h]; simp at ih ⊢; omega
  | case4 p a r b h1 h2 ih => rw [merge, if_neg h1, if_pos h2]; simp at ih ⊢; omega
  | case5 p a r b h1 h2 ih => rw [merge, if_neg h1, if_neg h2]; simp at ih ⊢; omega

theorem merge_assoc {a b d : Pairs} (ha : Rise a) (hb : Rise b) (hd : Rise d) : merge (merge a b) d = merge a (merge b d) :=
  rise_ext (merge_rise (merge_rise ha hb) hd) (merge_rise ha (merge_rise hb hd)) fun n => by
    rw [get_merge (merge_rise ha hb) hd, get_merge ha hb, get_merge ha (merge_rise hb hd), get_merge hb hd]
    cases get d n <;> simp

theorem merge_twice {a b : Pairs} (ha : Rise a) (hb : Rise b) : merge (merge a b) b = merge a b :=
  rise_ext (merge_rise (merge_rise ha hb) hb) (merge_rise ha hb) fun n => by
    rw [get_merge (merge_rise ha hb) hb, get_merge ha hb]
    cases get b n <;> simp

theorem merge_self {a : Pairs} (ha : Rise a) : merge a a = a :=
  rise_ext (merge_rise ha ha) ha fun n => by
    rw [get_merge ha ha]
    cases get a n <;> simp

abbrev Small (g : Pairs) : Prop := ∀ p ∈ g, p.1.size ≤ 140737488351232 ∧ p.2.size ≤ 140737488351232

set_option maxHeartbeats 2000000 in
theorem over_few0 (v0 v1 v2 : Value) (a b d : Pairs) (w : World) (h0 : Holds w v0 a) (h1 : Holds w v1 b) (h2 : Holds w v2 d) (hza : Small a) (hzb : Small b) (hzd : Small d) (hfa : ¬ weight a < 3000) (hfb : weight b < 3000) (hfd : weight d < 3000) :
    Calls Try.prog 5 #[v0, v1, v2] w fun e w' => e = .returned (.bool true) ∧ Below w.heap.size w w' := by
  have H_a_0 := Lib.hid h0; have H_b_0 := Lib.hid h1; have H_d_0 := Lib.hid h2
  clear h0 h1 h2
  go_enter Try.func5, Try.ntmps5
  have B0 := Lib.hid (Below.refl w.heap.size w)
  have z0 : w.heap.size ≤ w.heap.size := Nat.le_refl _
  go_wp2_with fail
  refine (shown_true _).mono ?_; rintro e w1 ⟨rfl, hb⟩
  have B1 := Lib.hid (B0.out.step hb z0)
  have z1 := B1.out.size
  have H_a_1 := Lib.hid (H_a_0.out.grown hb (Nat.le_refl _))
  have H_b_1 := Lib.hid (H_b_0.out.grown hb (Nat.le_refl _))
  have H_d_1 := Lib.hid (H_d_0.out.grown hb (Nat.le_refl _))
  clear hb B0 z0 H_a_0 H_b_0 H_d_0
  go_wp2_with fail
  refine (few_no v0 a _ H_a_1.out hza hfa).mono ?_; rintro e w2 ⟨rfl, hb⟩
  have B2 := Lib.hid (B1.out.step hb z1)
  have z2 := B2.out.size
  have H_a_2 := Lib.hid (H_a_1.out.grown hb (Nat.le_refl _))
  have H_b_2 := Lib.hid (H_b_1.out.grown hb (Nat.le_refl _))
  have H_d_2 := Lib.hid (H_d_1.out.grown hb (Nat.le_refl _))
  clear hb B1 z1 H_a_1 H_b_1 H_d_1
  go_wp2_with fail
  refine (few_yes v1 b _ H_b_2.out hzb hfb).mono ?_; rintro e w3 ⟨rfl, hb⟩
  have B3 := Lib.hid (B2.out.step hb z2)
  have z3 := B3.out.size
  have H_a_3 := Lib.hid (H_a_2.out.grown hb (Nat.le_refl _))
  have H_b_3 := Lib.hid (H_b_2.out.grown hb (Nat.le_refl _))
  have H_d_3 := Lib.hid (H_d_2.out.grown hb (Nat.le_refl _))
  clear hb B2 z2 H_a_2 H_b_2 H_d_2
  go_wp2_with fail
  refine (few_yes v2 d _ H_d_3.out hzd hfd).mono ?_; rintro e w4 ⟨rfl, hb⟩
  have B4 := Lib.hid (B3.out.step hb z3)
  have z4 := B4.out.size
  have H_a_4 := Lib.hid (H_a_3.out.grown hb (Nat.le_refl _))
  have H_b_4 := Lib.hid (H_b_3.out.grown hb (Nat.le_refl _))
  have H_d_4 := Lib.hid (H_d_3.out.grown hb (Nat.le_refl _))
  clear hb B3 z3 H_a_3 H_b_3 H_d_3
  go_wp2_with fail
  go_ret
  exact ⟨rfl, B4.out⟩

set_option maxHeartbeats 2000000 in
theorem over_few1 (v0 v1 v2 : Value) (a b d : Pairs) (w : World) (h0 : Holds w v0 a) (h1 : Holds w v1 b) (h2 : Holds w v2 d) (hza : Small a) (hzb : Small b) (hzd : Small d) (hfa : ¬ weight a < 3000) (hfb : weight b < 3000) (hfd : ¬ weight d < 3000) :
    Calls Try.prog 5 #[v0, v1, v2] w fun e w' => e = .returned (.bool true) ∧ Below w.heap.size w w' := by
  have H_a_0 := Lib.hid h0; have H_b_0 := Lib.hid h1; have H_d_0 := Lib.hid h2
  clear h0 h1 h2
  go_enter Try.func5, Try.ntmps5
  have B0 := Lib.hid (Below.refl w.heap.size w)
  have z0 : w.heap.size ≤ w.heap.size := Nat.le_refl _
  go_wp2_with fail
  refine (shown_true _).mono ?_; rintro e w1 ⟨rfl, hb⟩
  have B1 := Lib.hid (B0.out.step hb z0)
  have z1 := B1.out.size
  have H_a_1 := Lib.hid (H_a_0.out.grown hb (Nat.le_refl _))
  have H_b_1 := Lib.hid (H_b_0.out.grown hb (Nat.le_refl _))
  have H_d_1 := Lib.hid (H_d_0.out.grown hb (Nat.le_refl _))
  clear hb B0 z0 H_a_0 H_b_0 H_d_0
  go_wp2_with fail
  refine (few_no v0 a _ H_a_1.out hza hfa).mono ?_; rintro e w2 ⟨rfl, hb⟩
  have B2 := Lib.hid (B1.out.step hb z1)
  have z2 := B2.out.size
  have H_a_2 := Lib.hid (H_a_1.out.grown hb (Nat.le_refl _))
  have H_b_2 := Lib.hid (H_b_1.out.grown hb (Nat.le_refl _))
  have H_d_2 := Lib.hid (H_d_1.out.grown hb (Nat.le_refl _))
  clear hb B1 z1 H_a_1 H_b_1 H_d_1
  go_wp2_with fail
  refine (few_yes v1 b _ H_b_2.out hzb hfb).mono ?_; rintro e w3 ⟨rfl, hb⟩
  have B3 := Lib.hid (B2.out.step hb z2)
  have z3 := B3.out.size
  have H_a_3 := Lib.hid (H_a_2.out.grown hb (Nat.le_refl _))
  have H_b_3 := Lib.hid (H_b_2.out.grown hb (Nat.le_refl _))
  have H_d_3 := Lib.hid (H_d_2.out.grown hb (Nat.le_refl _))
  clear hb B2 z2 H_a_2 H_b_2 H_d_2
  go_wp2_with fail
  refine (few_no v2 d _ H_d_3.out hzd hfd).mono ?_; rintro e w4 ⟨rfl, hb⟩
  have B4 := Lib.hid (B3.out.step hb z3)
  have z4 := B4.out.size
  have H_a_4 := Lib.hid (H_a_3.out.grown hb (Nat.le_refl _))
  have H_b_4 := Lib.hid (H_b_3.out.grown hb (Nat.le_refl _))
  have H_d_4 := Lib.hid (H_d_3.out.grown hb (Nat.le_refl _))
  clear hb B3 z3 H_a_3 H_b_3 H_d_3
  go_wp2_with fail
  go_ret
  exact ⟨rfl, B4.out⟩

set_option maxHeartbeats 2000000 in
theorem over_few2 (v0 v1 v2 : Value) (a b d : Pairs) (w : World) (h0 : Holds w v0 a) (h1 : Holds w v1 b) (h2 : Holds w v2 d) (hza : Small a) (hzb : Small b) (hzd : Small d) (hfa : ¬ weight a < 3000) (hfb : ¬ weight b < 3000) (hfd : weight d < 3000) :
    Calls Try.prog 5 #[v0, v1, v2] w fun e w' => e = .returned (.bool true) ∧ Below w.heap.size w w' := by
  have H_a_0 := Lib.hid h0; have H_b_0 := Lib.hid h1; have H_d_0 := Lib.hid h2
  clear h0 h1 h2
  go_enter Try.func5, Try.ntmps5
  have B0 := Lib.hid (Below.refl w.heap.size w)
  have z0 : w.heap.size ≤ w.heap.size := Nat.le_refl _
  go_wp2_with fail
  refine (shown_true _).mono ?_; rintro e w1 ⟨rfl, hb⟩
  have B1 := Lib.hid (B0.out.step hb z0)
  have z1 := B1.out.size
  have H_a_1 := Lib.hid (H_a_0.out.grown hb (Nat.le_refl _))
  have H_b_1 := Lib.hid (H_b_0.out.grown hb (Nat.le_refl _))
  have H_d_1 := Lib.hid (H_d_0.out.grown hb (Nat.le_refl _))
  clear hb B0 z0 H_a_0 H_b_0 H_d_0
  go_wp2_with fail
  refine (few_no v0 a _ H_a_1.out hza hfa).mono ?_; rintro e w2 ⟨rfl, hb⟩
  have B2 := Lib.hid (B1.out.step hb z1)
  have z2 := B2.out.size
  have H_a_2 := Lib.hid (H_a_1.out.grown hb (Nat.le_refl _))
  have H_b_2 := Lib.hid (H_b_1.out.grown hb (Nat.le_refl _))
  have H_d_2 := Lib.hid (H_d_1.out.grown hb (Nat.le_refl _))
  clear hb B1 z1 H_a_1 H_b_1 H_d_1
  go_wp2_with fail
  refine (few_no v1 b _ H_b_2.out hzb hfb).mono ?_; rintro e w3 ⟨rfl, hb⟩
  have B3 := Lib.hid (B2.out.step hb z2)
  have z3 := B3.out.size
  have H_a_3 := Lib.hid (H_a_2.out.grown hb (Nat.le_refl _))
  have H_b_3 := Lib.hid (H_b_2.out.grown hb (Nat.le_refl _))
  have H_d_3 := Lib.hid (H_d_2.out.grown hb (Nat.le_refl _))
  clear hb B2 z2 H_a_2 H_b_2 H_d_2
  go_wp2_with fail
  refine (few_yes v2 d _ H_d_3.out hzd hfd).mono ?_; rintro e w4 ⟨rfl, hb⟩
  have B4 := Lib.hid (B3.out.step hb z3)
  have z4 := B4.out.size
  have H_a_4 := Lib.hid (H_a_3.out.grown hb (Nat.le_refl _))
  have H_b_4 := Lib.hid (H_b_3.out.grown hb (Nat.le_refl _))
  have H_d_4 := Lib.hid (H_d_3.out.grown hb (Nat.le_refl _))
  clear hb B3 z3 H_a_3 H_b_3 H_d_3
  go_wp2_with fail
  go_ret
  exact ⟨rfl, B4.out⟩

set_option maxHeartbeats 2000000 in
theorem over_few3 (v0 v1 v2 : Value) (a b d : Pairs) (w : World) (h0 : Holds w v0 a) (h1 : Holds w v1 b) (h2 : Holds w v2 d) (hza : Small a) (hzb : Small b) (hzd : Small d) (hfa : ¬ weight a < 3000) (hfb : ¬ weight b < 3000) (hfd : ¬ weight d < 3000) :
    Calls Try.prog 5 #[v0, v1, v2] w fun e w' => e = .returned (.bool true) ∧ Below w.heap.size w w' := by
  have H_a_0 := Lib.hid h0; have H_b_0 := Lib.hid h1; have H_d_0 := Lib.hid h2
  clear h0 h1 h2
  go_enter Try.func5, Try.ntmps5
  have B0 := Lib.hid (Below.refl w.heap.size w)
  have z0 : w.heap.size ≤ w.heap.size := Nat.le_refl _
  go_wp2_with fail
  refine (shown_true _).mono ?_; rintro e w1 ⟨rfl, hb⟩
  have B1 := Lib.hid (B0.out.step hb z0)
  have z1 := B1.out.size
  have H_a_1 := Lib.hid (H_a_0.out.grown hb (Nat.le_refl _))
  have H_b_1 := Lib.hid (H_b_0.out.grown hb (Nat.le_refl _))
  have H_d_1 := Lib.hid (H_d_0.out.grown hb (Nat.le_refl _))
  clear hb B0 z0 H_a_0 H_b_0 H_d_0
  go_wp2_with fail
  refine (few_no v0 a _ H_a_1.out hza hfa).mono ?_; rintro e w2 ⟨rfl, hb⟩
  have B2 := Lib.hid (B1.out.step hb z1)
  have z2 := B2.out.size
  have H_a_2 := Lib.hid (H_a_1.out.grown hb (Nat.le_refl _))
  have H_b_2 := Lib.hid (H_b_1.out.grown hb (Nat.le_refl _))
  have H_d_2 := Lib.hid (H_d_1.out.grown hb (Nat.le_refl _))
  clear hb B1 z1 H_a_1 H_b_1 H_d_1
  go_wp2_with fail
  refine (few_no v1 b _ H_b_2.out hzb hfb).mono ?_; rintro e w3 ⟨rfl, hb⟩
  have B3 := Lib.hid (B2.out.step hb z2)
  have z3 := B3.out.size
  have H_a_3 := Lib.hid (H_a_2.out.grown hb (Nat.le_refl _))
  have H_b_3 := Lib.hid (H_b_2.out.grown hb (Nat.le_refl _))
  have H_d_3 := Lib.hid (H_d_2.out.grown hb (Nat.le_refl _))
  clear hb B2 z2 H_a_2 H_b_2 H_d_2
  go_wp2_with fail
  refine (few_no v2 d _ H_d_3.out hzd hfd).mono ?_; rintro e w4 ⟨rfl, hb⟩
  have B4 := Lib.hid (B3.out.step hb z3)
  have z4 := B4.out.size
  have H_a_4 := Lib.hid (H_a_3.out.grown hb (Nat.le_refl _))
  have H_b_4 := Lib.hid (H_b_3.out.grown hb (Nat.le_refl _))
  have H_d_4 := Lib.hid (H_d_3.out.grown hb (Nat.le_refl _))
  clear hb B3 z3 H_a_3 H_b_3 H_d_3
  go_wp2_with fail
  go_ret
  exact ⟨rfl, B4.out⟩

set_option maxHeartbeats 2000000 in
theorem over_few4 (v0 v1 v2 : Value) (a b d : Pairs) (w : World) (h0 : Holds w v0 a) (h1 : Holds w v1 b) (h2 : Holds w v2 d) (hza : Small a) (hzb : Small b) (hzd : Small d) (hfa : weight a < 3000) (hfb : ¬ weight b < 3000) (hfd : weight d < 3000) :
    Calls Try.prog 5 #[v0, v1, v2] w fun e w' => e = .returned (.bool true) ∧ Below w.heap.size w w' := by
  have H_a_0 := Lib.hid h0; have H_b_0 := Lib.hid h1; have H_d_0 := Lib.hid h2
  clear h0 h1 h2
  go_enter Try.func5, Try.ntmps5
  have B0 := Lib.hid (Below.refl w.heap.size w)
  have z0 : w.heap.size ≤ w.heap.size := Nat.le_refl _
  go_wp2_with fail
  refine (shown_true _).mono ?_; rintro e w1 ⟨rfl, hb⟩
  have B1 := Lib.hid (B0.out.step hb z0)
  have z1 := B1.out.size
  have H_a_1 := Lib.hid (H_a_0.out.grown hb (Nat.le_refl _))
  have H_b_1 := Lib.hid (H_b_0.out.grown hb (Nat.le_refl _))
  have H_d_1 := Lib.hid (H_d_0.out.grown hb (Nat.le_refl _))
  clear hb B0 z0 H_a_0 H_b_0 H_d_0
  go_wp2_with fail
  refine (few_yes v0 a _ H_a_1.out hza hfa).mono ?_; rintro e w2 ⟨rfl, hb⟩
  have B2 := Lib.hid (B1.out.step hb z1)
  have z2 := B2.out.size
  have H_a_2 := Lib.hid (H_a_1.out.grown hb (Nat.le_refl _))
  have H_b_2 := Lib.hid (H_b_1.out.grown hb (Nat.le_refl _))
  have H_d_2 := Lib.hid (H_d_1.out.grown hb (Nat.le_refl _))
  clear hb B1 z1 H_a_1 H_b_1 H_d_1
  go_wp2_with fail
  refine (few_no v1 b _ H_b_2.out hzb hfb).mono ?_; rintro e w3 ⟨rfl, hb⟩
  have B3 := Lib.hid (B2.out.step hb z2)
  have z3 := B3.out.size
  have H_a_3 := Lib.hid (H_a_2.out.grown hb (Nat.le_refl _))
  have H_b_3 := Lib.hid (H_b_2.out.grown hb (Nat.le_refl _))
  have H_d_3 := Lib.hid (H_d_2.out.grown hb (Nat.le_refl _))
  clear hb B2 z2 H_a_2 H_b_2 H_d_2
  go_wp2_with fail
  refine (few_yes v2 d _ H_d_3.out hzd hfd).mono ?_; rintro e w4 ⟨rfl, hb⟩
  have B4 := Lib.hid (B3.out.step hb z3)
  have z4 := B4.out.size
  have H_a_4 := Lib.hid (H_a_3.out.grown hb (Nat.le_refl _))
  have H_b_4 := Lib.hid (H_b_3.out.grown hb (Nat.le_refl _))
  have H_d_4 := Lib.hid (H_d_3.out.grown hb (Nat.le_refl _))
  clear hb B3 z3 H_a_3 H_b_3 H_d_3
  go_wp2_with fail
  go_ret
  exact ⟨rfl, B4.out⟩

set_option maxHeartbeats 2000000 in
theorem over_few5 (v0 v1 v2 : Value) (a b d : Pairs) (w : World) (h0 : Holds w v0 a) (h1 : Holds w v1 b) (h2 : Holds w v2 d) (hza : Small a) (hzb : Small b) (hzd : Small d) (hfa : weight a < 3000) (hfb : ¬ weight b < 3000) (hfd : ¬ weight d < 3000) :
    Calls Try.prog 5 #[v0, v1, v2] w fun e w' => e = .returned (.bool true) ∧ Below w.heap.size w w' := by
  have H_a_0 := Lib.hid h0; have H_b_0 := Lib.hid h1; have H_d_0 := Lib.hid h2
  clear h0 h1 h2
  go_enter Try.func5, Try.ntmps5
  have B0 := Lib.hid (Below.refl w.heap.size w)
  have z0 : w.heap.size ≤ w.heap.size := Nat.le_refl _
  go_wp2_with fail
  refine (shown_true _).mono ?_; rintro e w1 ⟨rfl, hb⟩
  have B1 := Lib.hid (B0.out.step hb z0)
  have z1 := B1.out.size
  have H_a_1 := Lib.hid (H_a_0.out.grown hb (Nat.le_refl _))
  have H_b_1 := Lib.hid (H_b_0.out.grown hb (Nat.le_refl _))
  have H_d_1 := Lib.hid (H_d_0.out.grown hb (Nat.le_refl _))
  clear hb B0 z0 H_a_0 H_b_0 H_d_0
  go_wp2_with fail
  refine (few_yes v0 a _ H_a_1.out hza hfa).mono ?_; rintro e w2 ⟨rfl, hb⟩
  have B2 := Lib.hid (B1.out.step hb z1)
  have z2 := B2.out.size
  have H_a_2 := Lib.hid (H_a_1.out.grown hb (Nat.le_refl _))
  have H_b_2 := Lib.hid (H_b_1.out.grown hb (Nat.le_refl _))
  have H_d_2 := Lib.hid (H_d_1.out.grown hb (Nat.le_refl _))
  clear hb B1 z1 H_a_1 H_b_1 H_d_1
  go_wp2_with fail
  refine (few_no v1 b _ H_b_2.out hzb hfb).mono ?_; rintro e w3 ⟨rfl, hb⟩
  have B3 := Lib.hid (B2.out.step hb z2)
  have z3 := B3.out.size
  have H_a_3 := Lib.hid (H_a_2.out.grown hb (Nat.le_refl _))
  have H_b_3 := Lib.hid (H_b_2.out.grown hb (Nat.le_refl _))
  have H_d_3 := Lib.hid (H_d_2.out.grown hb (Nat.le_refl _))
  clear hb B2 z2 H_a_2 H_b_2 H_d_2
  go_wp2_with fail
  refine (few_no v2 d _ H_d_3.out hzd hfd).mono ?_; rintro e w4 ⟨rfl, hb⟩
  have B4 := Lib.hid (B3.out.step hb z3)
  have z4 := B4.out.size
  have H_a_4 := Lib.hid (H_a_3.out.grown hb (Nat.le_refl _))
  have H_b_4 := Lib.hid (H_b_3.out.grown hb (Nat.le_refl _))
  have H_d_4 := Lib.hid (H_d_3.out.grown hb (Nat.le_refl _))
  clear hb B3 z3 H_a_3 H_b_3 H_d_3
  go_wp2_with fail
  go_ret
  exact ⟨rfl, B4.out⟩

set_option maxHeartbeats 2000000 in
theorem over_few6 (v0 v1 v2 : Value) (a b d : Pairs) (w : World) (h0 : Holds w v0 a) (h1 : Holds w v1 b) (h2 : Holds w v2 d) (hza : Small a) (hzb : Small b) (hzd : Small d) (hfa : weight a < 3000) (hfb : weight b < 3000) (hfd : ¬ weight d < 3000) :
    Calls Try.prog 5 #[v0, v1, v2] w fun e w' => e = .returned (.bool true) ∧ Below w.heap.size w w' := by
  have H_a_0 := Lib.hid h0; have H_b_0 := Lib.hid h1; have H_d_0 := Lib.hid h2
  clear h0 h1 h2
  go_enter Try.func5, Try.ntmps5
  have B0 := Lib.hid (Below.refl w.heap.size w)
  have z0 : w.heap.size ≤ w.heap.size := Nat.le_refl _
  go_wp2_with fail
  refine (shown_true _).mono ?_; rintro e w1 ⟨rfl, hb⟩
  have B1 := Lib.hid (B0.out.step hb z0)
  have z1 := B1.out.size
  have H_a_1 := Lib.hid (H_a_0.out.grown hb (Nat.le_refl _))
  have H_b_1 := Lib.hid (H_b_0.out.grown hb (Nat.le_refl _))
  have H_d_1 := Lib.hid (H_d_0.out.grown hb (Nat.le_refl _))
  clear hb B0 z0 H_a_0 H_b_0 H_d_0
  go_wp2_with fail
  refine (few_yes v0 a _ H_a_1.out hza hfa).mono ?_; rintro e w2 ⟨rfl, hb⟩
  have B2 := Lib.hid (B1.out.step hb z1)
  have z2 := B2.out.size
  have H_a_2 := Lib.hid (H_a_1.out.grown hb (Nat.le_refl _))
  have H_b_2 := Lib.hid (H_b_1.out.grown hb (Nat.le_refl _))
  have H_d_2 := Lib.hid (H_d_1.out.grown hb (Nat.le_refl _))
  clear hb B1 z1 H_a_1 H_b_1 H_d_1
  go_wp2_with fail
  refine (few_yes v1 b _ H_b_2.out hzb hfb).mono ?_; rintro e w3 ⟨rfl, hb⟩
  have B3 := Lib.hid (B2.out.step hb z2)
  have z3 := B3.out.size
  have H_a_3 := Lib.hid (H_a_2.out.grown hb (Nat.le_refl _))
  have H_b_3 := Lib.hid (H_b_2.out.grown hb (Nat.le_refl _))
  have H_d_3 := Lib.hid (H_d_2.out.grown hb (Nat.le_refl _))
  clear hb B2 z2 H_a_2 H_b_2 H_d_2
  go_wp2_with fail
  refine (few_no v2 d _ H_d_3.out hzd hfd).mono ?_; rintro e w4 ⟨rfl, hb⟩
  have B4 := Lib.hid (B3.out.step hb z3)
  have z4 := B4.out.size
  have H_a_4 := Lib.hid (H_a_3.out.grown hb (Nat.le_refl _))
  have H_b_4 := Lib.hid (H_b_3.out.grown hb (Nat.le_refl _))
  have H_d_4 := Lib.hid (H_d_3.out.grown hb (Nat.le_refl _))
  clear hb B3 z3 H_a_3 H_b_3 H_d_3
  go_wp2_with fail
  go_ret
  exact ⟨rfl, B4.out⟩

set_option maxHeartbeats 2000000 in
theorem over_right0 (v0 v1 v2 : Value) (a b d : Pairs) (w : World) (h0 : Holds w v0 a) (h1 : Holds w v1 b) (h2 : Holds w v2 d) (hza : Small a) (hzb : Small b) (hzd : Small d) (hfa : weight a < 3000) (hfb : weight b < 3000) (hfd : weight d < 3000) (hra : ¬ Rise a) :
    Calls Try.prog 5 #[v0, v1, v2] w fun e w' => e = .returned (.bool true) ∧ Below w.heap.size w w' := by
  have H_a_0 := Lib.hid h0; have H_b_0 := Lib.hid h1; have H_d_0 := Lib.hid h2
  clear h0 h1 h2
  go_enter Try.func5, Try.ntmps5
  have B0 := Lib.hid (Below.refl w.heap.size w)
  have z0 : w.heap.size ≤ w.heap.size := Nat.le_refl _
  go_wp2_with fail
  refine (shown_true _).mono ?_; rintro e w1 ⟨rfl, hb⟩
  have B1 := Lib.hid (B0.out.step hb z0)
  have z1 := B1.out.size
  have H_a_1 := Lib.hid (H_a_0.out.grown hb (Nat.le_refl _))
  have H_b_1 := Lib.hid (H_b_0.out.grown hb (Nat.le_refl _))
  have H_d_1 := Lib.hid (H_d_0.out.grown hb (Nat.le_refl _))
  clear hb B0 z0 H_a_0 H_b_0 H_d_0
  go_wp2_with fail
  refine (few_yes v0 a _ H_a_1.out hza hfa).mono ?_; rintro e w2 ⟨rfl, hb⟩
  have B2 := Lib.hid (B1.out.step hb z1)
  have z2 := B2.out.size
  have H_a_2 := Lib.hid (H_a_1.out.grown hb (Nat.le_refl _))
  have H_b_2 := Lib.hid (H_b_1.out.grown hb (Nat.le_refl _))
  have H_d_2 := Lib.hid (H_d_1.out.grown hb (Nat.le_refl _))
  clear hb B1 z1 H_a_1 H_b_1 H_d_1
  go_wp2_with fail
  refine (few_yes v1 b _ H_b_2.out hzb hfb).mono ?_; rintro e w3 ⟨rfl, hb⟩
  have B3 := Lib.hid (B2.out.step hb z2)
  have z3 := B3.out.size
  have H_a_3 := Lib.hid (H_a_2.out.grown hb (Nat.le_refl _))
  have H_b_3 := Lib.hid (H_b_2.out.grown hb (Nat.le_refl _))
  have H_d_3 := Lib.hid (H_d_2.out.grown hb (Nat.le_refl _))
  clear hb B2 z2 H_a_2 H_b_2 H_d_2
  go_wp2_with fail
  refine (few_yes v2 d _ H_d_3.out hzd hfd).mono ?_; rintro e w4 ⟨rfl, hb⟩
  have B4 := Lib.hid (B3.out.step hb z3)
  have z4 := B4.out.size
  have H_a_4 := Lib.hid (H_a_3.out.grown hb (Nat.le_refl _))
  have H_b_4 := Lib.hid (H_b_3.out.grown hb (Nat.le_refl _))
  have H_d_4 := Lib.hid (H_d_3.out.grown hb (Nat.le_refl _))
  clear hb B3 z3 H_a_3 H_b_3 H_d_3
  go_wp2_with fail
  refine (right_no v0 a _ H_a_4.out hra).mono ?_; rintro e w5 ⟨rfl, hb⟩
  have B5 := Lib.hid (B4.out.step hb z4)
  have z5 := B5.out.size
  have H_a_5 := Lib.hid (H_a_4.out.grown hb (Nat.le_refl _))
  have H_b_5 := Lib.hid (H_b_4.out.grown hb (Nat.le_refl _))
  have H_d_5 := Lib.hid (H_d_4.out.grown hb (Nat.le_refl _))
  clear hb B4 z4 H_a_4 H_b_4 H_d_4
  go_wp2_with fail
  go_ret
  exact ⟨rfl, B5.out⟩

set_option maxHeartbeats 2000000 in
theorem over_right1 (v0 v1 v2 : Value) (a b d : Pairs) (w : World) (h0 : Holds w v0 a) (h1 : Holds w v1 b) (h2 : Holds w v2 d) (hza : Small a) (hzb : Small b) (hzd : Small d) (hfa : weight a < 3000) (hfb : weight b < 3000) (hfd : weight d < 3000) (hra : Rise a) (hrb : ¬ Rise b) :
    Calls Try.prog 5 #[v0, v1, v2] w fun e w' => e = .returned (.bool true) ∧ Below w.heap.size w w' := by
  have H_a_0 := Lib.hid h0; have H_b_0 := Lib.hid h1; have H_d_0 := Lib.hid h2
  clear h0 h1 h2
  go_enter Try.func5, Try.ntmps5
  have B0 := Lib.hid (Below.refl w.heap.size w)
  have z0 : w.heap.size ≤ w.heap.size := Nat.le_refl _
  go_wp2_with fail
  refine (shown_true _).mono ?_; rintro e w1 ⟨rfl, hb⟩
  have B1 := Lib.hid (B0.out.step hb z0)
  have z1 := B1.out.size
  have H_a_1 := Lib.hid (H_a_0.out.grown hb (Nat.le_refl _))
  have H_b_1 := Lib.hid (H_b_0.out.grown hb (Nat.le_refl _))
  have H_d_1 := Lib.hid (H_d_0.out.grown hb (Nat.le_refl _))
  clear hb B0 z0 H_a_0 H_b_0 H_d_0
  go_wp2_with fail
  refine (few_yes v0 a _ H_a_1.out hza hfa).mono ?_; rintro e w2 ⟨rfl, hb⟩
  have B2 := Lib.hid (B1.out.step hb z1)
  have z2 := B2.out.size
  have H_a_2 := Lib.hid (H_a_1.out.grown hb (Nat.le_refl _))
  have H_b_2 := Lib.hid (H_b_1.out.grown hb (Nat.le_refl _))
  have H_d_2 := Lib.hid (H_d_1.out.grown hb (Nat.le_refl _))
  clear hb B1 z1 H_a_1 H_b_1 H_d_1
  go_wp2_with fail
  refine (few_yes v1 b _ H_b_2.out hzb hfb).mono ?_; rintro e w3 ⟨rfl, hb⟩
  have B3 := Lib.hid (B2.out.step hb z2)
  have z3 := B3.out.size
  have H_a_3 := Lib.hid (H_a_2.out.grown hb (Nat.le_refl _))
  have H_b_3 := Lib.hid (H_b_2.out.grown hb (Nat.le_refl _))
  have H_d_3 := Lib.hid (H_d_2.out.grown hb (Nat.le_refl _))
  clear hb B2 z2 H_a_2 H_b_2 H_d_2
  go_wp2_with fail
  refine (few_yes v2 d _ H_d_3.out hzd hfd).mono ?_; rintro e w4 ⟨rfl, hb⟩
  have B4 := Lib.hid (B3.out.step hb z3)
  have z4 := B4.out.size
  have H_a_4 := Lib.hid (H_a_3.out.grown hb (Nat.le_refl _))
  have H_b_4 := Lib.hid (H_b_3.out.grown hb (Nat.le_refl _))
  have H_d_4 := Lib.hid (H_d_3.out.grown hb (Nat.le_refl _))
  clear hb B3 z3 H_a_3 H_b_3 H_d_3
  go_wp2_with fail
  refine (right_yes v0 a _ H_a_4.out hra).mono ?_; rintro e w5 ⟨rfl, hb⟩
  have B5 := Lib.hid (B4.out.step hb z4)
  have z5 := B5.out.size
  have H_a_5 := Lib.hid (H_a_4.out.grown hb (Nat.le_refl _))
  have H_b_5 := Lib.hid (H_b_4.out.grown hb (Nat.le_refl _))
  have H_d_5 := Lib.hid (H_d_4.out.grown hb (Nat.le_refl _))
  clear hb B4 z4 H_a_4 H_b_4 H_d_4
  go_wp2_with fail
  refine (right_no v1 b _ H_b_5.out hrb).mono ?_; rintro e w6 ⟨rfl, hb⟩
  have B6 := Lib.hid (B5.out.step hb z5)
  have z6 := B6.out.size
  have H_a_6 := Lib.hid (H_a_5.out.grown hb (Nat.le_refl _))
  have H_b_6 := Lib.hid (H_b_5.out.grown hb (Nat.le_refl _))
  have H_d_6 := Lib.hid (H_d_5.out.grown hb (Nat.le_refl _))
  clear hb B5 z5 H_a_5 H_b_5 H_d_5
  go_wp2_with fail
  go_ret
  exact ⟨rfl, B6.out⟩

set_option maxHeartbeats 2000000 in
theorem over_right2 (v0 v1 v2 : Value) (a b d : Pairs) (w : World) (h0 : Holds w v0 a) (h1 : Holds w v1 b) (h2 : Holds w v2 d) (hza : Small a) (hzb : Small b) (hzd : Small d) (hfa : weight a < 3000) (hfb : weight b < 3000) (hfd : weight d < 3000) (hra : Rise a) (hrb : Rise b) (hrd : ¬ Rise d) :
    Calls Try.prog 5 #[v0, v1, v2] w fun e w' => e = .returned (.bool true) ∧ Below w.heap.size w w' := by
  have H_a_0 := Lib.hid h0; have H_b_0 := Lib.hid h1; have H_d_0 := Lib.hid h2
  clear h0 h1 h2
  go_enter Try.func5, Try.ntmps5
  have B0 := Lib.hid (Below.refl w.heap.size w)
  have z0 : w.heap.size ≤ w.heap.size := Nat.le_refl _
  go_wp2_with fail
  refine (shown_true _).mono ?_; rintro e w1 ⟨rfl, hb⟩
  have B1 := Lib.hid (B0.out.step hb z0)
  have z1 := B1.out.size
  have H_a_1 := Lib.hid (H_a_0.out.grown hb (Nat.le_refl _))
  have H_b_1 := Lib.hid (H_b_0.out.grown hb (Nat.le_refl _))
  have H_d_1 := Lib.hid (H_d_0.out.grown hb (Nat.le_refl _))
  clear hb B0 z0 H_a_0 H_b_0 H_d_0
  go_wp2_with fail
  refine (few_yes v0 a _ H_a_1.out hza hfa).mono ?_; rintro e w2 ⟨rfl, hb⟩
  have B2 := Lib.hid (B1.out.step hb z1)
  have z2 := B2.out.size
  have H_a_2 := Lib.hid (H_a_1.out.grown hb (Nat.le_refl _))
  have H_b_2 := Lib.hid (H_b_1.out.grown hb (Nat.le_refl _))
  have H_d_2 := Lib.hid (H_d_1.out.grown hb (Nat.le_refl _))
  clear hb B1 z1 H_a_1 H_b_1 H_d_1
  go_wp2_with fail
  refine (few_yes v1 b _ H_b_2.out hzb hfb).mono ?_; rintro e w3 ⟨rfl, hb⟩
  have B3 := Lib.hid (B2.out.step hb z2)
  have z3 := B3.out.size
  have H_a_3 := Lib.hid (H_a_2.out.grown hb (Nat.le_refl _))
  have H_b_3 := Lib.hid (H_b_2.out.grown hb (Nat.le_refl _))
  have H_d_3 := Lib.hid (H_d_2.out.grown hb (Nat.le_refl _))
  clear hb B2 z2 H_a_2 H_b_2 H_d_2
  go_wp2_with fail
  refine (few_yes v2 d _ H_d_3.out hzd hfd).mono ?_; rintro e w4 ⟨rfl, hb⟩
  have B4 := Lib.hid (B3.out.step hb z3)
  have z4 := B4.out.size
  have H_a_4 := Lib.hid (H_a_3.out.grown hb (Nat.le_refl _))
  have H_b_4 := Lib.hid (H_b_3.out.grown hb (Nat.le_refl _))
  have H_d_4 := Lib.hid (H_d_3.out.grown hb (Nat.le_refl _))
  clear hb B3 z3 H_a_3 H_b_3 H_d_3
  go_wp2_with fail
  refine (right_yes v0 a _ H_a_4.out hra).mono ?_; rintro e w5 ⟨rfl, hb⟩
  have B5 := Lib.hid (B4.out.step hb z4)
  have z5 := B5.out.size
  have H_a_5 := Lib.hid (H_a_4.out.grown hb (Nat.le_refl _))
  have H_b_5 := Lib.hid (H_b_4.out.grown hb (Nat.le_refl _))
  have H_d_5 := Lib.hid (H_d_4.out.grown hb (Nat.le_refl _))
  clear hb B4 z4 H_a_4 H_b_4 H_d_4
  go_wp2_with fail
  refine (right_yes v1 b _ H_b_5.out hrb).mono ?_; rintro e w6 ⟨rfl, hb⟩
  have B6 := Lib.hid (B5.out.step hb z5)
  have z6 := B6.out.size
  have H_a_6 := Lib.hid (H_a_5.out.grown hb (Nat.le_refl _))
  have H_b_6 := Lib.hid (H_b_5.out.grown hb (Nat.le_refl _))
  have H_d_6 := Lib.hid (H_d_5.out.grown hb (Nat.le_refl _))
  clear hb B5 z5 H_a_5 H_b_5 H_d_5
  go_wp2_with fail
  refine (right_no v2 d _ H_d_6.out hrd).mono ?_; rintro e w7 ⟨rfl, hb⟩
  have B7 := Lib.hid (B6.out.step hb z6)
  have z7 := B7.out.size
  have H_a_7 := Lib.hid (H_a_6.out.grown hb (Nat.le_refl _))
  have H_b_7 := Lib.hid (H_b_6.out.grown hb (Nat.le_refl _))
  have H_d_7 := Lib.hid (H_d_6.out.grown hb (Nat.le_refl _))
  clear hb B6 z6 H_a_6 H_b_6 H_d_6
  go_wp2_with fail
  go_ret
  exact ⟨rfl, B7.out⟩

set_option maxHeartbeats 4000000 in
theorem over_all (v0 v1 v2 : Value) (a b d : Pairs) (w : World) (h0 : Holds w v0 a) (h1 : Holds w v1 b) (h2 : Holds w v2 d) (hza : Small a) (hzb : Small b) (hzd : Small d) (hfa : weight a < 3000) (hfb : weight b < 3000) (hfd : weight d < 3000) (hra : Rise a) (hrb : Rise b) (hrd : Rise d) :
    Calls Try.prog 5 #[v0, v1, v2] w fun e w' => e = .returned (.bool true) ∧ Below w.heap.size w w' := by
  have la := weight_len a; have lb := weight_len b; have ld := weight_len d
  have m1 := merge_length a b; have m2 := merge_length (merge a b) d; have m3 := merge_length b d; have m4 := merge_length a (merge b d); have m5 := merge_length (merge a b) b
  have HXY := Lib.hid (merge_assoc hra hrb hrd); have HZ := Lib.hid (merge_twice hra hrb); have HS := Lib.hid (merge_self hra)
  have m6 := merge_length a a
  have H_a_0 := Lib.hid h0; have H_b_0 := Lib.hid h1; have H_d_0 := Lib.hid h2
  clear h0 h1 h2
  go_enter Try.func5, Try.ntmps5
  have B0 := Lib.hid (Below.refl w.heap.size w)
  have z0 : w.heap.size ≤ w.heap.size := Nat.le_refl _
  go_wp2_with fail
  refine (shown_true _).mono ?_; rintro e w1 ⟨rfl, hb⟩
  have B1 := Lib.hid (B0.out.step hb z0)
  have z1 := B1.out.size
  have H_a_1 := Lib.hid (H_a_0.out.grown hb (Nat.le_refl _))
  have H_b_1 := Lib.hid (H_b_0.out.grown hb (Nat.le_refl _))
  have H_d_1 := Lib.hid (H_d_0.out.grown hb (Nat.le_refl _))
  clear hb B0 z0 H_a_0 H_b_0 H_d_0
  go_wp2_with fail
  refine (few_yes v0 a _ H_a_1.out hza hfa).mono ?_; rintro e w2 ⟨rfl, hb⟩
  have B2 := Lib.hid (B1.out.step hb z1)
  have z2 := B2.out.size
  have H_a_2 := Lib.hid (H_a_1.out.grown hb (Nat.le_refl _))
  have H_b_2 := Lib.hid (H_b_1.out.grown hb (Nat.le_refl _))
  have H_d_2 := Lib.hid (H_d_1.out.grown hb (Nat.le_refl _))
  clear hb B1 z1 H_a_1 H_b_1 H_d_1
  go_wp2_with fail
  refine (few_yes v1 b _ H_b_2.out hzb hfb).mono ?_; rintro e w3 ⟨rfl, hb⟩
  have B3 := Lib.hid (B2.out.step hb z2)
  have z3 := B3.out.size
  have H_a_3 := Lib.hid (H_a_2.out.grown hb (Nat.le_refl _))
  have H_b_3 := Lib.hid (H_b_2.out.grown hb (Nat.le_refl _))
  have H_d_3 := Lib.hid (H_d_2.out.grown hb (Nat.le_refl _))
  clear hb B2 z2 H_a_2 H_b_2 H_d_2
  go_wp2_with fail
  refine (few_yes v2 d _ H_d_3.out hzd hfd).mono ?_; rintro e w4 ⟨rfl, hb⟩
  have B4 := Lib.hid (B3.out.step hb z3)
  have z4 := B4.out.size
  have H_a_4 := Lib.hid (H_a_3.out.grown hb (Nat.le_refl _))
  have H_b_4 := Lib.hid (H_b_3.out.grown hb (Nat.le_refl _))
  have H_d_4 := Lib.hid (H_d_3.out.grown hb (Nat.le_refl _))
  clear hb B3 z3 H_a_3 H_b_3 H_d_3
  go_wp2_with fail
  refine (right_yes v0 a _ H_a_4.out hra).mono ?_; rintro e w5 ⟨rfl, hb⟩
  have B5 := Lib.hid (B4.out.step hb z4)
  have z5 := B5.out.size
  have H_a_5 := Lib.hid (H_a_4.out.grown hb (Nat.le_refl _))
  have H_b_5 := Lib.hid (H_b_4.out.grown hb (Nat.le_refl _))
  have H_d_5 := Lib.hid (H_d_4.out.grown hb (Nat.le_refl _))
  clear hb B4 z4 H_a_4 H_b_4 H_d_4
  go_wp2_with fail
  refine (right_yes v1 b _ H_b_5.out hrb).mono ?_; rintro e w6 ⟨rfl, hb⟩
  have B6 := Lib.hid (B5.out.step hb z5)
  have z6 := B6.out.size
  have H_a_6 := Lib.hid (H_a_5.out.grown hb (Nat.le_refl _))
  have H_b_6 := Lib.hid (H_b_5.out.grown hb (Nat.le_refl _))
  have H_d_6 := Lib.hid (H_d_5.out.grown hb (Nat.le_refl _))
  clear hb B5 z5 H_a_5 H_b_5 H_d_5
  go_wp2_with fail
  refine (right_yes v2 d _ H_d_6.out hrd).mono ?_; rintro e w7 ⟨rfl, hb⟩
  have B7 := Lib.hid (B6.out.step hb z6)
  have z7 := B7.out.size
  have H_a_7 := Lib.hid (H_a_6.out.grown hb (Nat.le_refl _))
  have H_b_7 := Lib.hid (H_b_6.out.grown hb (Nat.le_refl _))
  have H_d_7 := Lib.hid (H_d_6.out.grown hb (Nat.le_refl _))
  clear hb B6 z6 H_a_6 H_b_6 H_d_6
  go_wp2_with fail
  refine (over_any v0 v1 a b _ H_a_7.out H_b_7.out (by omega)).mono ?_; rintro e w8 ⟨p1, rfl, hnew, hb⟩
  have B8 := Lib.hid (B7.out.step hb z7)
  have z8 := B8.out.size
  have H_a_8 := Lib.hid (H_a_7.out.grown hb (Nat.le_refl _))
  have H_b_8 := Lib.hid (H_b_7.out.grown hb (Nat.le_refl _))
  have H_d_8 := Lib.hid (H_d_7.out.grown hb (Nat.le_refl _))
  have H_p1_8 := Lib.hid hnew
  clear hb B7 z7 hnew H_a_7 H_b_7 H_d_7
  go_wp2_with fail
  refine (over_any p1 v2 (merge a b) d _ H_p1_8.out H_d_8.out (by omega)).mono ?_; rintro e w9 ⟨x, rfl, hnew, hb⟩
  have B9 := Lib.hid (B8.out.step hb z8)
  have z9 := B9.out.size
  have H_a_9 := Lib.hid (H_a_8.out.grown hb (Nat.le_refl _))
  have H_b_9 := Lib.hid (H_b_8.out.grown hb (Nat.le_refl _))
  have H_d_9 := Lib.hid (H_d_8.out.grown hb (Nat.le_refl _))
  have H_p1_9 := Lib.hid (H_p1_8.out.grown hb (Nat.le_refl _))
  have H_x_9 := Lib.hid hnew
  clear hb B8 z8 hnew H_a_8 H_b_8 H_d_8 H_p1_8
  clear H_p1_9
  go_wp2_with fail
  refine (over_any v1 v2 b d _ H_b_9.out H_d_9.out (by omega)).mono ?_; rintro e w10 ⟨p2, rfl, hnew, hb⟩
  have B10 := Lib.hid (B9.out.step hb z9)
  have z10 := B10.out.size
  have H_a_10 := Lib.hid (H_a_9.out.grown hb (Nat.le_refl _))
  have H_b_10 := Lib.hid (H_b_9.out.grown hb (Nat.le_refl _))
  have H_d_10 := Lib.hid (H_d_9.out.grown hb (Nat.le_refl _))
  have H_x_10 := Lib.hid (H_x_9.out.grown hb (Nat.le_refl _))
  have H_p2_10 := Lib.hid hnew
  clear hb B9 z9 hnew H_a_9 H_b_9 H_d_9 H_x_9
  go_wp2_with fail
  refine (over_any v0 p2 a (merge b d) _ H_a_10.out H_p2_10.out (by omega)).mono ?_; rintro e w11 ⟨y, rfl, hnew, hb⟩
  have B11 := Lib.hid (B10.out.step hb z10)
  have z11 := B11.out.size
  have H_a_11 := Lib.hid (H_a_10.out.grown hb (Nat.le_refl _))
  have H_b_11 := Lib.hid (H_b_10.out.grown hb (Nat.le_refl _))
  have H_d_11 := Lib.hid (H_d_10.out.grown hb (Nat.le_refl _))
  have H_x_11 := Lib.hid (H_x_10.out.grown hb (Nat.le_refl _))
  have H_p2_11 := Lib.hid (H_p2_10.out.grown hb (Nat.le_refl _))
  have H_y_11 := Lib.hid hnew
  clear hb B10 z10 hnew H_a_10 H_b_10 H_d_10 H_x_10 H_p2_10
  clear H_p2_11
  go_wp2_with fail
  refine (over_any v0 v1 a b _ H_a_11.out H_b_11.out (by omega)).mono ?_; rintro e w12 ⟨p3, rfl, hnew, hb⟩
  have B12 := Lib.hid (B11.out.step hb z11)
  have z12 := B12.out.size
  have H_a_12 := Lib.hid (H_a_11.out.grown hb (Nat.le_refl _))
  have H_b_12 := Lib.hid (H_b_11.out.grown hb (Nat.le_refl _))
  have H_d_12 := Lib.hid (H_d_11.out.grown hb (Nat.le_refl _))
  have H_x_12 := Lib.hid (H_x_11.out.grown hb (Nat.le_refl _))
  have H_y_12 := Lib.hid (H_y_11.out.grown hb (Nat.le_refl _))
  have H_p3_12 := Lib.hid hnew
  clear hb B11 z11 hnew H_a_11 H_b_11 H_d_11 H_x_11 H_y_11
  go_wp2_with fail
  refine (over_any p3 v1 (merge a b) b _ H_p3_12.out H_b_12.out (by omega)).mono ?_; rintro e w13 ⟨z, rfl, hnew, hb⟩
  have B13 := Lib.hid (B12.out.step hb z12)
  have z13 := B13.out.size
  have H_a_13 := Lib.hid (H_a_12.out.grown hb (Nat.le_refl _))
  have H_b_13 := Lib.hid (H_b_12.out.grown hb (Nat.le_refl _))
  have H_d_13 := Lib.hid (H_d_12.out.grown hb (Nat.le_refl _))
  have H_x_13 := Lib.hid (H_x_12.out.grown hb (Nat.le_refl _))
  have H_y_13 := Lib.hid (H_y_12.out.grown hb (Nat.le_refl _))
  have H_p3_13 := Lib.hid (H_p3_12.out.grown hb (Nat.le_refl _))
  have H_z_13 := Lib.hid hnew
  clear hb B12 z12 hnew H_a_12 H_b_12 H_d_12 H_x_12 H_y_12 H_p3_12
  clear H_p3_13
  go_wp2_with fail
  refine (asPairs_any y (merge a (merge b d)) _ H_y_13.out (by omega)).mono ?_; rintro e w14 ⟨q1, rfl, hnew, hb⟩
  have B14 := Lib.hid (B13.out.step hb z13)
  have z14 := B14.out.size
  have H_a_14 := Lib.hid (H_a_13.out.grown hb (Nat.le_refl _))
  have H_b_14 := Lib.hid (H_b_13.out.grown hb (Nat.le_refl _))
  have H_d_14 := Lib.hid (H_d_13.out.grown hb (Nat.le_refl _))
  have H_x_14 := Lib.hid (H_x_13.out.grown hb (Nat.le_refl _))
  have H_y_14 := Lib.hid (H_y_13.out.grown hb (Nat.le_refl _))
  have H_z_14 := Lib.hid (H_z_13.out.grown hb (Nat.le_refl _))
  have H_q1_14 := Lib.hid hnew
  clear hb B13 z13 hnew H_a_13 H_b_13 H_d_13 H_x_13 H_y_13 H_z_13
  go_wp2_with fail
  refine (same_any x q1 (merge a (merge b d)) _ (by rw [← HXY.out]; exact H_x_14.out) H_q1_14.out).mono ?_; rintro e w15 ⟨rfl, hb⟩
  have B15 := Lib.hid (B14.out.step hb z14)
  have z15 := B15.out.size
  have H_a_15 := Lib.hid (H_a_14.out.grown hb (Nat.le_refl _))
  have H_b_15 := Lib.hid (H_b_14.out.grown hb (Nat.le_refl _))
  have H_d_15 := Lib.hid (H_d_14.out.grown hb (Nat.le_refl _))
  have H_x_15 := Lib.hid (H_x_14.out.grown hb (Nat.le_refl _))
  have H_y_15 := Lib.hid (H_y_14.out.grown hb (Nat.le_refl _))
  have H_z_15 := Lib.hid (H_z_14.out.grown hb (Nat.le_refl _))
  have H_q1_15 := Lib.hid (H_q1_14.out.grown hb (Nat.le_refl _))
  clear hb B14 z14 H_a_14 H_b_14 H_d_14 H_x_14 H_y_14 H_z_14 H_q1_14
  clear H_x_15 H_y_15 H_q1_15
  go_wp2_with fail
  refine (over_any v0 v1 a b _ H_a_15.out H_b_15.out (by omega)).mono ?_; rintro e w16 ⟨p4, rfl, hnew, hb⟩
  have B16 := Lib.hid (B15.out.step hb z15)
  have z16 := B16.out.size
  have H_a_16 := Lib.hid (H_a_15.out.grown hb (Nat.le_refl _))
  have H_b_16 := Lib.hid (H_b_15.out.grown hb (Nat.le_refl _))
  have H_d_16 := Lib.hid (H_d_15.out.grown hb (Nat.le_refl _))
  have H_z_16 := Lib.hid (H_z_15.out.grown hb (Nat.le_refl _))
  have H_p4_16 := Lib.hid hnew
  clear hb B15 z15 hnew H_a_15 H_b_15 H_d_15 H_z_15
  go_wp2_with fail
  refine (asPairs_any p4 (merge a b) _ H_p4_16.out (by omega)).mono ?_; rintro e w17 ⟨q2, rfl, hnew, hb⟩
  have B17 := Lib.hid (B16.out.step hb z16)
  have z17 := B17.out.size
  have H_a_17 := Lib.hid (H_a_16.out.grown hb (Nat.le_refl _))
  have H_b_17 := Lib.hid (H_b_16.out.grown hb (Nat.le_refl _))
  have H_d_17 := Lib.hid (H_d_16.out.grown hb (Nat.le_refl _))
  have H_z_17 := Lib.hid (H_z_16.out.grown hb (Nat.le_refl _))
  have H_p4_17 := Lib.hid (H_p4_16.out.grown hb (Nat.le_refl _))
  have H_q2_17 := Lib.hid hnew
  clear hb B16 z16 hnew H_a_16 H_b_16 H_d_16 H_z_16 H_p4_16
  go_wp2_with fail
  refine (same_any z q2 (merge a b) _ (by rw [← HZ.out]; exact H_z_17.out) H_q2_17.out).mono ?_; rintro e w18 ⟨rfl, hb⟩
  have B18 := Lib.hid (B17.out.step hb z17)
  have z18 := B18.out.size
  have H_a_18 := Lib.hid (H_a_17.out.grown hb (Nat.le_refl _))
  have H_b_18 := Lib.hid (H_b_17.out.grown hb (Nat.le_refl _))
  have H_d_18 := Lib.hid (H_d_17.out.grown hb (Nat.le_refl _))
  have H_z_18 := Lib.hid (H_z_17.out.grown hb (Nat.le_refl _))
  have H_p4_18 := Lib.hid (H_p4_17.out.grown hb (Nat.le_refl _))
  have H_q2_18 := Lib.hid (H_q2_17.out.grown hb (Nat.le_refl _))
  clear hb B17 z17 H_a_17 H_b_17 H_d_17 H_z_17 H_p4_17 H_q2_17
  clear H_z_18 H_p4_18 H_q2_18
  go_wp2_with fail
  refine (over_any (.slice none 0 0) v0 [] a _ (Holds.nil _) H_a_18.out (by simp; omega)).mono ?_; rintro e w19 ⟨p5, rfl, hnew, hb⟩
  have B19 := Lib.hid (B18.out.step hb z18)
  have z19 := B19.out.size
  have H_a_19 := Lib.hid (H_a_18.out.grown hb (Nat.le_refl _))
  have H_b_19 := Lib.hid (H_b_18.out.grown hb (Nat.le_refl _))
  have H_d_19 := Lib.hid (H_d_18.out.grown hb (Nat.le_refl _))
  rw [merge] at hnew
  have H_p5_19 := Lib.hid hnew
  clear hb B18 z18 hnew H_a_18 H_b_18 H_d_18
  go_wp2_with fail
  refine (asPairs_any v0 a _ H_a_19.out (by omega)).mono ?_; rintro e w20 ⟨q3, rfl, hnew, hb⟩
  have B20 := Lib.hid (B19.out.step hb z19)
  have z20 := B20.out.size
  have H_a_20 := Lib.hid (H_a_19.out.grown hb (Nat.le_refl _))
  have H_b_20 := Lib.hid (H_b_19.out.grown hb (Nat.le_refl _))
  have H_d_20 := Lib.hid (H_d_19.out.grown hb (Nat.le_refl _))
  have H_p5_20 := Lib.hid (H_p5_19.out.grown hb (Nat.le_refl _))
  have H_q3_20 := Lib.hid hnew
  clear hb B19 z19 hnew H_a_19 H_b_19 H_d_19 H_p5_19
  go_wp2_with fail
  refine (same_any p5 q3 a _ H_p5_20.out H_q3_20.out).mono ?_; rintro e w21 ⟨rfl, hb⟩
  have B21 := Lib.hid (B20.out.step hb z20)
  have z21 := B21.out.size
  have H_a_21 := Lib.hid (H_a_20.out.grown hb (Nat.le_refl _))
  have H_b_21 := Lib.hid (H_b_20.out.grown hb (Nat.le_refl _))
  have H_d_21 := Lib.hid (H_d_20.out.grown hb (Nat.le_refl _))
  have H_p5_21 := Lib.hid (H_p5_20.out.grown hb (Nat.le_refl _))
  have H_q3_21 := Lib.hid (H_q3_20.out.grown hb (Nat.le_refl _))
  clear hb B20 z20 H_a_20 H_b_20 H_d_20 H_p5_20 H_q3_20
  clear H_p5_21 H_q3_21
  go_wp2_with fail
  refine (over_any v0 (.slice none 0 0) a [] _ H_a_21.out (Holds.nil _) (by simp; omega)).mono ?_; rintro e w22 ⟨p6, rfl, hnew, hb⟩
  have B22 := Lib.hid (B21.out.step hb z21)
  have z22 := B22.out.size
  have H_a_22 := Lib.hid (H_a_21.out.grown hb (Nat.le_refl _))
  have H_b_22 := Lib.hid (H_b_21.out.grown hb (Nat.le_refl _))
  have H_d_22 := Lib.hid (H_d_21.out.grown hb (Nat.le_refl _))
  rw [merge_nil] at hnew
  have H_p6_22 := Lib.hid hnew
  clear hb B21 z21 hnew H_a_21 H_b_21 H_d_21
  go_wp2_with fail
  refine (asPairs_any v0 a _ H_a_22.out (by omega)).mono ?_; rintro e w23 ⟨q4, rfl, hnew, hb⟩
  have B23 := Lib.hid (B22.out.step hb z22)
  have z23 := B23.out.size
  have H_a_23 := Lib.hid (H_a_22.out.grown hb (Nat.le_refl _))
  have H_b_23 := Lib.hid (H_b_22.out.grown hb (Nat.le_refl _))
  have H_d_23 := Lib.hid (H_d_22.out.grown hb (Nat.le_refl _))
  have H_p6_23 := Lib.hid (H_p6_22.out.grown hb (Nat.le_refl _))
  have H_q4_23 := Lib.hid hnew
  clear hb B22 z22 hnew H_a_22 H_b_22 H_d_22 H_p6_22
  go_wp2_with fail
  refine (same_any p6 q4 a _ H_p6_23.out H_q4_23.out).mono ?_; rintro e w24 ⟨rfl, hb⟩
  have B24 := Lib.hid (B23.out.step hb z23)
  have z24 := B24.out.size
  have H_a_24 := Lib.hid (H_a_23.out.grown hb (Nat.le_refl _))
  have H_b_24 := Lib.hid (H_b_23.out.grown hb (Nat.le_refl _))
  have H_d_24 := Lib.hid (H_d_23.out.grown hb (Nat.le_refl _))
  have H_p6_24 := Lib.hid (H_p6_23.out.grown hb (Nat.le_refl _))
  have H_q4_24 := Lib.hid (H_q4_23.out.grown hb (Nat.le_refl _))
  clear hb B23 z23 H_a_23 H_b_23 H_d_23 H_p6_23 H_q4_23
  clear H_p6_24 H_q4_24
  go_wp2_with fail
  refine (over_any v0 v0 a a _ H_a_24.out H_a_24.out (by omega)).mono ?_; rintro e w25 ⟨p7, rfl, hnew, hb⟩
  have B25 := Lib.hid (B24.out.step hb z24)
  have z25 := B25.out.size
  have H_a_25 := Lib.hid (H_a_24.out.grown hb (Nat.le_refl _))
  have H_b_25 := Lib.hid (H_b_24.out.grown hb (Nat.le_refl _))
  have H_d_25 := Lib.hid (H_d_24.out.grown hb (Nat.le_refl _))
  rw [HS.out] at hnew
  have H_p7_25 := Lib.hid hnew
  clear hb B24 z24 hnew H_a_24 H_b_24 H_d_24
  go_wp2_with fail
  refine (asPairs_any v0 a _ H_a_25.out (by omega)).mono ?_; rintro e w26 ⟨q5, rfl, hnew, hb⟩
  have B26 := Lib.hid (B25.out.step hb z25)
  have z26 := B26.out.size
  have H_a_26 := Lib.hid (H_a_25.out.grown hb (Nat.le_refl _))
  have H_b_26 := Lib.hid (H_b_25.out.grown hb (Nat.le_refl _))
  have H_d_26 := Lib.hid (H_d_25.out.grown hb (Nat.le_refl _))
  have H_p7_26 := Lib.hid (H_p7_25.out.grown hb (Nat.le_refl _))
  have H_q5_26 := Lib.hid hnew
  clear hb B25 z25 hnew H_a_25 H_b_25 H_d_25 H_p7_25
  go_wp2_with fail
  refine (same_any p7 q5 a _ H_p7_26.out H_q5_26.out).mono ?_; rintro e w27 ⟨rfl, hb⟩
  have B27 := Lib.hid (B26.out.step hb z26)
  have z27 := B27.out.size
  have H_a_27 := Lib.hid (H_a_26.out.grown hb (Nat.le_refl _))
  have H_b_27 := Lib.hid (H_b_26.out.grown hb (Nat.le_refl _))
  have H_d_27 := Lib.hid (H_d_26.out.grown hb (Nat.le_refl _))
  have H_p7_27 := Lib.hid (H_p7_26.out.grown hb (Nat.le_refl _))
  have H_q5_27 := Lib.hid (H_q5_26.out.grown hb (Nat.le_refl _))
  clear hb B26 z26 H_a_26 H_b_26 H_d_26 H_p7_26 H_q5_26
  go_wp2_with fail
  go_ret
  exact ⟨rfl, B27.out⟩

theorem over_ok (v0 v1 v2 : Value) (a b d : Pairs) (w : World) (h0 : Holds w v0 a) (h1 : Holds w v1 b) (h2 : Holds w v2 d) (hza : Small a) (hzb : Small b) (hzd : Small d) :
    Calls Try.prog 5 #[v0, v1, v2] w fun e w' => e = .returned (.bool true) ∧ Below w.heap.size w w' := by
  by_cases hfa : weight a < 3000 <;> by_cases hfb : weight b < 3000 <;> by_cases hfd : weight d < 3000
  · by_cases hra : Rise a
    · by_cases hrb : Rise b
      · by_cases hrd : Rise d
        · exact over_all v0 v1 v2 a b d w h0 h1 h2 hza hzb hzd hfa hfb hfd hra hrb hrd
        · exact over_right2 v0 v1 v2 a b d w h0 h1 h2 hza hzb hzd hfa hfb hfd hra hrb hrd
      · exact over_right1 v0 v1 v2 a b d w h0 h1 h2 hza hzb hzd hfa hfb hfd hra hrb
    · exact over_right0 v0 v1 v2 a b d w h0 h1 h2 hza hzb hzd hfa hfb hfd hra
  · exact over_few6 v0 v1 v2 a b d w h0 h1 h2 hza hzb hzd hfa hfb hfd
  · exact over_few4 v0 v1 v2 a b d w h0 h1 h2 hza hzb hzd hfa hfb hfd
  · exact over_few5 v0 v1 v2 a b d w h0 h1 h2 hza hzb hzd hfa hfb hfd
  · exact over_few0 v0 v1 v2 a b d w h0 h1 h2 hza hzb hzd hfa hfb hfd
  · exact over_few1 v0 v1 v2 a b d w h0 h1 h2 hza hzb hzd hfa hfb hfd
  · exact over_few2 v0 v1 v2 a b d w h0 h1 h2 hza hzb hzd hfa hfb hfd
  · exact over_few3 v0 v1 v2 a b d w h0 h1 h2 hza hzb hzd hfa hfb hfd

set_option maxRecDepth 100000 in
theorem over_lifted (os : Os) (started : os.Started) (H : Type) (enc : TypeId × Value → H) :
    ReturnsInHanded {} Try.checked os 5 .any (Rows.varsOverSpec.pre6 enc Try.prog Try.f5 Rows.varsOverRow.domain false) (Rows.varsOverSpec.post enc Try.prog Try.f5 false true false false) := by
  refine returnsInHanded_of_change_sized (C := Try.checked) own started (by kernel_rfl) Try.func5
    (ChangeSpec.witness6 (enc := enc) (C := Try.checked) false ⟨#[], #[.slice none 0 0, .slice none 0 0, .slice none 0 0], []⟩ 8 (by kernel_rfl) (by kernel_rfl) (by kernel_rfl) (by kernel_rfl)) ?_
  intro W base args ds gs before hval0 hW _ hsz0 _
  have hsz : (DataW.weightsEach Try.prog (Try.f5.params.toList ++ Rows.varsOverSpec.plain.varTypes Try.prog) (ds ++ gs)).all (· ≤ reachBytes) = true := hsz0
  clear hsz0
  have hval : ∀ (j : Nat) t v, Try.f5.params[j]? = some t → args[j]? = some v → Value.okWide Try.prog W .any base t v := hval0
  have hW' := hW
  obtain ⟨p, q, hA0, hV, rfl, _, _⟩ := hW
  have hA : DataW.TrodAll enc Try.prog W 0 (fun _ => true) true Try.f5.params.toList args.toList ds p := hA0
  rw [Try.params5] at hA hval hsz
  obtain ⟨v0, v1, v2, d0, d1, d2, p0, p1, p2, rfl, rfl, rfl, h0, h1, h2⟩ := trodAll_three hA
  obtain ⟨rfl, rfl⟩ := trodVars_none hV
  obtain ⟨a0, len0, cap0, rfl⟩ := okWide_slice Try.underlying22 (hval 0 22 v0 rfl rfl)
  obtain ⟨ga, hg0, hw0⟩ := open_pairs h0
  have hz0 : Small ga := fun q hq => ⟨of_decide_eq_true (List.all_eq_true.1 hsz _ (DataW.weights_mem_each (j := 0) (t := 22) rfl rfl _ (hw0 q hq).1)), of_decide_eq_true (List.all_eq_true.1 hsz _ (DataW.weights_mem_each (j := 0) (t := 22) rfl rfl _ (hw0 q hq).2))⟩
  obtain ⟨a1, len1, cap1, rfl⟩ := okWide_slice Try.underlying22 (hval 1 22 v1 rfl rfl)
  obtain ⟨gb, hg1, hw1⟩ := open_pairs h1
  have hz1 : Small gb := fun q hq => ⟨of_decide_eq_true (List.all_eq_true.1 hsz _ (DataW.weights_mem_each (j := 1) (t := 22) rfl rfl _ (hw1 q hq).1)), of_decide_eq_true (List.all_eq_true.1 hsz _ (DataW.weights_mem_each (j := 1) (t := 22) rfl rfl _ (hw1 q hq).2))⟩
  obtain ⟨a2, len2, cap2, rfl⟩ := okWide_slice Try.underlying22 (hval 2 22 v2 rfl rfl)
  obtain ⟨gd, hg2, hw2⟩ := open_pairs h2
  have hz2 : Small gd := fun q hq => ⟨of_decide_eq_true (List.all_eq_true.1 hsz _ (DataW.weights_mem_each (j := 2) (t := 22) rfl rfl _ (hw2 q hq).1)), of_decide_eq_true (List.all_eq_true.1 hsz _ (DataW.weights_mem_each (j := 2) (t := 22) rfl rfl _ (hw2 q hq).2))⟩
  refine (over_ok _ _ _ ga gb gd W hg0 hg1 hg2 hz0 hz1 hz2).mono fun e W' ⟨he, hb⟩ => ?_
  subst he
  exact ⟨_, rfl, law_shut laidOut (by kernel_rfl) (by kernel_rfl) Try.underlying4 rfl hW' rfl hb⟩

theorem over_holds : Rows.VarsOverSaid :=
  OpenClaim.holds_of_wide 5 Try.f5 rfl rfl rfl rfl rfl rfl rfl ⟨rfl, rfl, rfl, rfl, rfl⟩ rfl rfl rfl rfl rfl (by kernel_rfl) Try.func5 (by kernel_rfl)
    (of_decide_eq_true (by kernel_rfl)) (by unfold Func.isWrapper; rw [if_neg (of_decide_eq_false (by kernel_rfl))]; exact ⟨rfl, rfl⟩)
    (fun os started H enc _ => over_lifted os started H enc)
end Go.Proofs.Ytjckfdpkcaloiaa
