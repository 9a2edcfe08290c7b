/- Any two rows, two names, a value: VarsBack answers true, and leaves what was there as it was. -/
import Derived.Test.YtjckfdpkcaloiaaLawPuts
namespace Go.Proofs.Ytjckfdpkcaloiaa
open Go.RowKit Go.Lib Go.WideShapes Go.ChangeShapes Go.ChangeAt Go.Joins

set_option maxRecDepth 100000 in
set_option maxHeartbeats 4000000 in
theorem back_few00 (v0 v1 : Value) (l k : Pairs) (name other v : ByteArray) (w : World) (h0 : Holds w v0 l) (h1 : Holds w v1 k) (hzl : Small l) (hzk : Small k) (hfl : ¬ weight l < 3000) (hfk : ¬ weight k < 3000) :
    Calls Try.prog 4 #[v0, v1, .string name, .string other, .string v] w fun e w' => e = .returned (.bool true) ∧ Below w.heap.size w w' := by
  have H_l_0 := Lib.hid h0; have H_k_0 := Lib.hid h1
  clear h0 h1
  go_enter Try.func4, Try.ntmps4
  have B0 := Lib.hid (Below.refl w.heap.size w)
  have z0 : w.heap.size ≤ w.heap.size := Nat.le_refl _
  go_wp2_with fail
  refine (shown_true _).mono ?_; rintro e w1 ⟨rfl, hb⟩
  have B1 := Lib.hid (B0.out.step hb z0)
  have z1 := B1.out.size
  have H_l_1 := Lib.hid (H_l_0.out.grown hb (Nat.le_refl _))
  have H_k_1 := Lib.hid (H_k_0.out.grown hb (Nat.le_refl _))
  clear hb B0 z0 H_l_0 H_k_0
  go_wp2_with fail
  refine (few_no v0 l _ H_l_1.out hzl hfl).mono ?_; rintro e w2 ⟨rfl, hb⟩
  have B2 := Lib.hid (B1.out.step hb z1)
  have z2 := B2.out.size
  have H_l_2 := Lib.hid (H_l_1.out.grown hb (Nat.le_refl _))
  have H_k_2 := Lib.hid (H_k_1.out.grown hb (Nat.le_refl _))
  clear hb B1 z1 H_l_1 H_k_1
  go_wp2_with fail
  refine (few_no v1 k _ H_k_2.out hzk hfk).mono ?_; rintro e w3 ⟨rfl, hb⟩
  have B3 := Lib.hid (B2.out.step hb z2)
  have z3 := B3.out.size
  have H_l_3 := Lib.hid (H_l_2.out.grown hb (Nat.le_refl _))
  have H_k_3 := Lib.hid (H_k_2.out.grown hb (Nat.le_refl _))
  clear hb B2 z2 H_l_2 H_k_2
  go_wp2_with fail
  go_ret
  exact ⟨rfl, B3.out⟩

set_option maxRecDepth 100000 in
set_option maxHeartbeats 4000000 in
theorem back_few01 (v0 v1 : Value) (l k : Pairs) (name other v : ByteArray) (w : World) (h0 : Holds w v0 l) (h1 : Holds w v1 k) (hzl : Small l) (hzk : Small k) (hfl : ¬ weight l < 3000) (hfk : weight k < 3000) :
    Calls Try.prog 4 #[v0, v1, .string name, .string other, .string v] w fun e w' => e = .returned (.bool true) ∧ Below w.heap.size w w' := by
  have H_l_0 := Lib.hid h0; have H_k_0 := Lib.hid h1
  clear h0 h1
  go_enter Try.func4, Try.ntmps4
  have B0 := Lib.hid (Below.refl w.heap.size w)
  have z0 : w.heap.size ≤ w.heap.size := Nat.le_refl _
  go_wp2_with fail
  refine (shown_true _).mono ?_; rintro e w1 ⟨rfl, hb⟩
  have B1 := Lib.hid (B0.out.step hb z0)
  have z1 := B1.out.size
  have H_l_1 := Lib.hid (H_l_0.out.grown hb (Nat.le_refl _))
  have H_k_1 := Lib.hid (H_k_0.out.grown hb (Nat.le_refl _))
  clear hb B0 z0 H_l_0 H_k_0
  go_wp2_with fail
  refine (few_no v0 l _ H_l_1.out hzl hfl).mono ?_; rintro e w2 ⟨rfl, hb⟩
  have B2 := Lib.hid (B1.out.step hb z1)
  have z2 := B2.out.size
  have H_l_2 := Lib.hid (H_l_1.out.grown hb (Nat.le_refl _))
  have H_k_2 := Lib.hid (H_k_1.out.grown hb (Nat.le_refl _))
  clear hb B1 z1 H_l_1 H_k_1
  go_wp2_with fail
  refine (few_yes v1 k _ H_k_2.out hzk hfk).mono ?_; rintro e w3 ⟨rfl, hb⟩
  have B3 := Lib.hid (B2.out.step hb z2)
  have z3 := B3.out.size
  have H_l_3 := Lib.hid (H_l_2.out.grown hb (Nat.le_refl _))
  have H_k_3 := Lib.hid (H_k_2.out.grown hb (Nat.le_refl _))
  clear hb B2 z2 H_l_2 H_k_2
  go_wp2_with fail
  go_ret
  exact ⟨rfl, B3.out⟩

set_option maxRecDepth 100000 in
set_option maxHeartbeats 4000000 in
theorem back_few10 (v0 v1 : Value) (l k : Pairs) (name other v : ByteArray) (w : World) (h0 : Holds w v0 l) (h1 : Holds w v1 k) (hzl : Small l) (hzk : Small k) (hfl : weight l < 3000) (hfk : ¬ weight k < 3000) :
    Calls Try.prog 4 #[v0, v1, .string name, .string other, .string v] w fun e w' => e = .returned (.bool true) ∧ Below w.heap.size w w' := by
  have H_l_0 := Lib.hid h0; have H_k_0 := Lib.hid h1
  clear h0 h1
  go_enter Try.func4, Try.ntmps4
  have B0 := Lib.hid (Below.refl w.heap.size w)
  have z0 : w.heap.size ≤ w.heap.size := Nat.le_refl _
  go_wp2_with fail
  refine (shown_true _).mono ?_; rintro e w1 ⟨rfl, hb⟩
  have B1 := Lib.hid (B0.out.step hb z0)
  have z1 := B1.out.size
  have H_l_1 := Lib.hid (H_l_0.out.grown hb (Nat.le_refl _))
  have H_k_1 := Lib.hid (H_k_0.out.grown hb (Nat.le_refl _))
  clear hb B0 z0 H_l_0 H_k_0
  go_wp2_with fail
  refine (few_yes v0 l _ H_l_1.out hzl hfl).mono ?_; rintro e w2 ⟨rfl, hb⟩
  have B2 := Lib.hid (B1.out.step hb z1)
  have z2 := B2.out.size
  have H_l_2 := Lib.hid (H_l_1.out.grown hb (Nat.le_refl _))
  have H_k_2 := Lib.hid (H_k_1.out.grown hb (Nat.le_refl _))
  clear hb B1 z1 H_l_1 H_k_1
  go_wp2_with fail
  refine (few_no v1 k _ H_k_2.out hzk hfk).mono ?_; rintro e w3 ⟨rfl, hb⟩
  have B3 := Lib.hid (B2.out.step hb z2)
  have z3 := B3.out.size
  have H_l_3 := Lib.hid (H_l_2.out.grown hb (Nat.le_refl _))
  have H_k_3 := Lib.hid (H_k_2.out.grown hb (Nat.le_refl _))
  clear hb B2 z2 H_l_2 H_k_2
  go_wp2_with fail
  go_ret
  exact ⟨rfl, B3.out⟩

set_option maxRecDepth 100000 in
set_option maxHeartbeats 4000000 in
theorem back_right0 (v0 v1 : Value) (l k : Pairs) (name other v : ByteArray) (w : World) (h0 : Holds w v0 l) (h1 : Holds w v1 k) (hzl : Small l) (hzk : Small k) (hfl : weight l < 3000) (hfk : weight k < 3000) (hrl : ¬ Rise l) :
    Calls Try.prog 4 #[v0, v1, .string name, .string other, .string v] w fun e w' => e = .returned (.bool true) ∧ Below w.heap.size w w' := by
  have H_l_0 := Lib.hid h0; have H_k_0 := Lib.hid h1
  clear h0 h1
  go_enter Try.func4, Try.ntmps4
  have B0 := Lib.hid (Below.refl w.heap.size w)
  have z0 : w.heap.size ≤ w.heap.size := Nat.le_refl _
  go_wp2_with fail
  refine (shown_true _).mono ?_; rintro e w1 ⟨rfl, hb⟩
  have B1 := Lib.hid (B0.out.step hb z0)
  have z1 := B1.out.size
  have H_l_1 := Lib.hid (H_l_0.out.grown hb (Nat.le_refl _))
  have H_k_1 := Lib.hid (H_k_0.out.grown hb (Nat.le_refl _))
  clear hb B0 z0 H_l_0 H_k_0
  go_wp2_with fail
  refine (few_yes v0 l _ H_l_1.out hzl hfl).mono ?_; rintro e w2 ⟨rfl, hb⟩
  have B2 := Lib.hid (B1.out.step hb z1)
  have z2 := B2.out.size
  have H_l_2 := Lib.hid (H_l_1.out.grown hb (Nat.le_refl _))
  have H_k_2 := Lib.hid (H_k_1.out.grown hb (Nat.le_refl _))
  clear hb B1 z1 H_l_1 H_k_1
  go_wp2_with fail
  refine (few_yes v1 k _ H_k_2.out hzk hfk).mono ?_; rintro e w3 ⟨rfl, hb⟩
  have B3 := Lib.hid (B2.out.step hb z2)
  have z3 := B3.out.size
  have H_l_3 := Lib.hid (H_l_2.out.grown hb (Nat.le_refl _))
  have H_k_3 := Lib.hid (H_k_2.out.grown hb (Nat.le_refl _))
  clear hb B2 z2 H_l_2 H_k_2
  go_wp2_with fail
  refine (right_no v0 l _ H_l_3.out hrl).mono ?_; rintro e w4 ⟨rfl, hb⟩
  have B4 := Lib.hid (B3.out.step hb z3)
  have z4 := B4.out.size
  have H_l_4 := Lib.hid (H_l_3.out.grown hb (Nat.le_refl _))
  have H_k_4 := Lib.hid (H_k_3.out.grown hb (Nat.le_refl _))
  clear hb B3 z3 H_l_3 H_k_3
  go_wp2_with fail
  go_ret
  exact ⟨rfl, B4.out⟩

set_option maxRecDepth 100000 in
set_option maxHeartbeats 4000000 in
theorem back_right1 (v0 v1 : Value) (l k : Pairs) (name other v : ByteArray) (w : World) (h0 : Holds w v0 l) (h1 : Holds w v1 k) (hzl : Small l) (hzk : Small k) (hfl : weight l < 3000) (hfk : weight k < 3000) (hrl : Rise l) (hrk : ¬ Rise k) :
    Calls Try.prog 4 #[v0, v1, .string name, .string other, .string v] w fun e w' => e = .returned (.bool true) ∧ Below w.heap.size w w' := by
  have H_l_0 := Lib.hid h0; have H_k_0 := Lib.hid h1
  clear h0 h1
  go_enter Try.func4, Try.ntmps4
  have B0 := Lib.hid (Below.refl w.heap.size w)
  have z0 : w.heap.size ≤ w.heap.size := Nat.le_refl _
  go_wp2_with fail
  refine (shown_true _).mono ?_; rintro e w1 ⟨rfl, hb⟩
  have B1 := Lib.hid (B0.out.step hb z0)
  have z1 := B1.out.size
  have H_l_1 := Lib.hid (H_l_0.out.grown hb (Nat.le_refl _))
  have H_k_1 := Lib.hid (H_k_0.out.grown hb (Nat.le_refl _))
  clear hb B0 z0 H_l_0 H_k_0
  go_wp2_with fail
  refine (few_yes v0 l _ H_l_1.out hzl hfl).mono ?_; rintro e w2 ⟨rfl, hb⟩
  have B2 := Lib.hid (B1.out.step hb z1)
  have z2 := B2.out.size
  have H_l_2 := Lib.hid (H_l_1.out.grown hb (Nat.le_refl _))
  have H_k_2 := Lib.hid (H_k_1.out.grown hb (Nat.le_refl _))
  clear hb B1 z1 H_l_1 H_k_1
  go_wp2_with fail
  refine (few_yes v1 k _ H_k_2.out hzk hfk).mono ?_; rintro e w3 ⟨rfl, hb⟩
  have B3 := Lib.hid (B2.out.step hb z2)
  have z3 := B3.out.size
  have H_l_3 := Lib.hid (H_l_2.out.grown hb (Nat.le_refl _))
  have H_k_3 := Lib.hid (H_k_2.out.grown hb (Nat.le_refl _))
  clear hb B2 z2 H_l_2 H_k_2
  go_wp2_with fail
  refine (right_yes v0 l _ H_l_3.out hrl).mono ?_; rintro e w4 ⟨rfl, hb⟩
  have B4 := Lib.hid (B3.out.step hb z3)
  have z4 := B4.out.size
  have H_l_4 := Lib.hid (H_l_3.out.grown hb (Nat.le_refl _))
  have H_k_4 := Lib.hid (H_k_3.out.grown hb (Nat.le_refl _))
  clear hb B3 z3 H_l_3 H_k_3
  go_wp2_with fail
  refine (right_no v1 k _ H_k_4.out hrk).mono ?_; rintro e w5 ⟨rfl, hb⟩
  have B5 := Lib.hid (B4.out.step hb z4)
  have z5 := B5.out.size
  have H_l_5 := Lib.hid (H_l_4.out.grown hb (Nat.le_refl _))
  have H_k_5 := Lib.hid (H_k_4.out.grown hb (Nat.le_refl _))
  clear hb B4 z4 H_l_4 H_k_4
  go_wp2_with fail
  go_ret
  exact ⟨rfl, B5.out⟩

set_option maxRecDepth 100000 in
set_option maxHeartbeats 4000000 in
theorem back_all000 (v0 v1 : Value) (l k : Pairs) (name other v : ByteArray) (w : World) (h0 : Holds w v0 l) (h1 : Holds w v1 k) (hzl : Small l) (hzk : Small k) (hfl : weight l < 3000) (hfk : weight k < 3000) (hrl : Rise l) (hrk : Rise k) (hs : ¬ name = other) (hL : get l other = none) (hK : get k other = none) :
    Calls Try.prog 4 #[v0, v1, .string name, .string other, .string v] w fun e w' => e = .returned (.bool true) ∧ Below w.heap.size w w' := by
  have la := weight_len l; have lk := weight_len k; have p1 := put_length l name v; have m1 := merge_length l k
  have d1 : (drop l name).length ≤ l.length := List.length_filter_le _ _
  have HR1 := Lib.hid (put_rise hrl name v); have HR2 := Lib.hid (drop_rise hrl name); have HR3 := Lib.hid (merge_rise hrl hrk)
  have HP := Lib.hid (show get (put l name v) name = some v by rw [get_put hrl, if_pos rfl])
  have HD := Lib.hid (show get (drop l name) name = none by rw [get_drop, if_pos rfl])
  have HP2 := Lib.hid (show get (put l name v) other = none by rw [get_put hrl, if_neg hs, hL])
  have HD2 := Lib.hid (show get (drop l name) other = none by rw [get_drop, if_neg hs, hL])
  have HO2 := Lib.hid (show get (merge l k) other = none by rw [get_merge hrl hrk, hK, hL]; rfl)
  have he : (other.toList == name.toList) = false := by rw [eq_lists]; simpa using fun e => hs e.symm
  have HRL := Lib.hid hrl; have HRK := Lib.hid hrk; have HL := Lib.hid hL; have HK := Lib.hid hK
  clear hrl hrk hs hL hK
  have H_l_0 := Lib.hid h0; have H_k_0 := Lib.hid h1
  clear h0 h1
  go_enter Try.func4, Try.ntmps4
  have B0 := Lib.hid (Below.refl w.heap.size w)
  have z0 : w.heap.size ≤ w.heap.size := Nat.le_refl _
  go_wp2_with fail
  refine (shown_true _).mono ?_; rintro e w1 ⟨rfl, hb⟩
  have B1 := Lib.hid (B0.out.step hb z0)
  have z1 := B1.out.size
  have H_l_1 := Lib.hid (H_l_0.out.grown hb (Nat.le_refl _))
  have H_k_1 := Lib.hid (H_k_0.out.grown hb (Nat.le_refl _))
  clear hb B0 z0 H_l_0 H_k_0
  go_wp2_with fail
  refine (few_yes v0 l _ H_l_1.out hzl hfl).mono ?_; rintro e w2 ⟨rfl, hb⟩
  have B2 := Lib.hid (B1.out.step hb z1)
  have z2 := B2.out.size
  have H_l_2 := Lib.hid (H_l_1.out.grown hb (Nat.le_refl _))
  have H_k_2 := Lib.hid (H_k_1.out.grown hb (Nat.le_refl _))
  clear hb B1 z1 H_l_1 H_k_1
  go_wp2_with fail
  refine (few_yes v1 k _ H_k_2.out hzk hfk).mono ?_; rintro e w3 ⟨rfl, hb⟩
  have B3 := Lib.hid (B2.out.step hb z2)
  have z3 := B3.out.size
  have H_l_3 := Lib.hid (H_l_2.out.grown hb (Nat.le_refl _))
  have H_k_3 := Lib.hid (H_k_2.out.grown hb (Nat.le_refl _))
  clear hb B2 z2 H_l_2 H_k_2
  go_wp2_with fail
  refine (right_yes v0 l _ H_l_3.out HRL.out).mono ?_; rintro e w4 ⟨rfl, hb⟩
  have B4 := Lib.hid (B3.out.step hb z3)
  have z4 := B4.out.size
  have H_l_4 := Lib.hid (H_l_3.out.grown hb (Nat.le_refl _))
  have H_k_4 := Lib.hid (H_k_3.out.grown hb (Nat.le_refl _))
  clear hb B3 z3 H_l_3 H_k_3
  go_wp2_with fail
  refine (right_yes v1 k _ H_k_4.out HRK.out).mono ?_; rintro e w5 ⟨rfl, hb⟩
  have B5 := Lib.hid (B4.out.step hb z4)
  have z5 := B5.out.size
  have H_l_5 := Lib.hid (H_l_4.out.grown hb (Nat.le_refl _))
  have H_k_5 := Lib.hid (H_k_4.out.grown hb (Nat.le_refl _))
  clear hb B4 z4 H_l_4 H_k_4
  go_wp2_with fail
  refine (put_any v0 l name v _ H_l_5.out HRL.out (by omega)).mono ?_; rintro e w6 ⟨p, rfl, hnew, hb⟩
  have B6 := Lib.hid (B5.out.step hb z5)
  have z6 := B6.out.size
  have H_l_6 := Lib.hid (H_l_5.out.grown hb (Nat.le_refl _))
  have H_k_6 := Lib.hid (H_k_5.out.grown hb (Nat.le_refl _))
  have H_p_6 := Lib.hid hnew
  clear hb B5 z5 hnew H_l_5 H_k_5
  go_wp2_with fail
  refine (drop_any v0 l name _ H_l_6.out HRL.out (by omega)).mono ?_; rintro e w7 ⟨d, rfl, hnew, hb⟩
  have B7 := Lib.hid (B6.out.step hb z6)
  have z7 := B7.out.size
  have H_l_7 := Lib.hid (H_l_6.out.grown hb (Nat.le_refl _))
  have H_k_7 := Lib.hid (H_k_6.out.grown hb (Nat.le_refl _))
  have H_p_7 := Lib.hid (H_p_6.out.grown hb (Nat.le_refl _))
  have H_d_7 := Lib.hid hnew
  clear hb B6 z6 hnew H_l_6 H_k_6 H_p_6
  go_wp2_with fail
  refine (over_any v0 v1 l k _ H_l_7.out H_k_7.out (by omega)).mono ?_; rintro e w8 ⟨o, rfl, hnew, hb⟩
  have B8 := Lib.hid (B7.out.step hb z7)
  have z8 := B8.out.size
  have H_l_8 := Lib.hid (H_l_7.out.grown hb (Nat.le_refl _))
  have H_k_8 := Lib.hid (H_k_7.out.grown hb (Nat.le_refl _))
  have H_p_8 := Lib.hid (H_p_7.out.grown hb (Nat.le_refl _))
  have H_d_8 := Lib.hid (H_d_7.out.grown hb (Nat.le_refl _))
  have H_o_8 := Lib.hid hnew
  clear hb B7 z7 hnew H_l_7 H_k_7 H_p_7 H_d_7
  go_wp2_with fail
  refine (get_some H_p_8.out HP.out).mono ?_; rintro e w9 ⟨rfl, hb⟩
  have B9 := Lib.hid (B8.out.step hb z8)
  have z9 := B9.out.size
  have H_l_9 := Lib.hid (H_l_8.out.grown hb (Nat.le_refl _))
  have H_k_9 := Lib.hid (H_k_8.out.grown hb (Nat.le_refl _))
  have H_p_9 := Lib.hid (H_p_8.out.grown hb (Nat.le_refl _))
  have H_d_9 := Lib.hid (H_d_8.out.grown hb (Nat.le_refl _))
  have H_o_9 := Lib.hid (H_o_8.out.grown hb (Nat.le_refl _))
  clear hb B8 z8 H_l_8 H_k_8 H_p_8 H_d_8 H_o_8
  go_wp2_with fail
  refine (get_nothing H_d_9.out HD.out).mono ?_; rintro e w10 ⟨rfl, hb⟩
  have B10 := Lib.hid (B9.out.step hb z9)
  have z10 := B10.out.size
  have H_l_10 := Lib.hid (H_l_9.out.grown hb (Nat.le_refl _))
  have H_k_10 := Lib.hid (H_k_9.out.grown hb (Nat.le_refl _))
  have H_p_10 := Lib.hid (H_p_9.out.grown hb (Nat.le_refl _))
  have H_d_10 := Lib.hid (H_d_9.out.grown hb (Nat.le_refl _))
  have H_o_10 := Lib.hid (H_o_9.out.grown hb (Nat.le_refl _))
  clear hb B9 z9 H_l_9 H_k_9 H_p_9 H_d_9 H_o_9
  go_wp2_with fail
  refine (right_yes p (put l name v) _ H_p_10.out HR1.out).mono ?_; rintro e w11 ⟨rfl, hb⟩
  have B11 := Lib.hid (B10.out.step hb z10)
  have z11 := B11.out.size
  have H_l_11 := Lib.hid (H_l_10.out.grown hb (Nat.le_refl _))
  have H_k_11 := Lib.hid (H_k_10.out.grown hb (Nat.le_refl _))
  have H_p_11 := Lib.hid (H_p_10.out.grown hb (Nat.le_refl _))
  have H_d_11 := Lib.hid (H_d_10.out.grown hb (Nat.le_refl _))
  have H_o_11 := Lib.hid (H_o_10.out.grown hb (Nat.le_refl _))
  clear hb B10 z10 H_l_10 H_k_10 H_p_10 H_d_10 H_o_10
  go_wp2_with fail
  refine (right_yes d (drop l name) _ H_d_11.out HR2.out).mono ?_; rintro e w12 ⟨rfl, hb⟩
  have B12 := Lib.hid (B11.out.step hb z11)
  have z12 := B12.out.size
  have H_l_12 := Lib.hid (H_l_11.out.grown hb (Nat.le_refl _))
  have H_k_12 := Lib.hid (H_k_11.out.grown hb (Nat.le_refl _))
  have H_p_12 := Lib.hid (H_p_11.out.grown hb (Nat.le_refl _))
  have H_d_12 := Lib.hid (H_d_11.out.grown hb (Nat.le_refl _))
  have H_o_12 := Lib.hid (H_o_11.out.grown hb (Nat.le_refl _))
  clear hb B11 z11 H_l_11 H_k_11 H_p_11 H_d_11 H_o_11
  go_wp2_with fail
  refine (right_yes o (merge l k) _ H_o_12.out HR3.out).mono ?_; rintro e w13 ⟨rfl, hb⟩
  have B13 := Lib.hid (B12.out.step hb z12)
  have z13 := B13.out.size
  have H_l_13 := Lib.hid (H_l_12.out.grown hb (Nat.le_refl _))
  have H_k_13 := Lib.hid (H_k_12.out.grown hb (Nat.le_refl _))
  have H_p_13 := Lib.hid (H_p_12.out.grown hb (Nat.le_refl _))
  have H_d_13 := Lib.hid (H_d_12.out.grown hb (Nat.le_refl _))
  have H_o_13 := Lib.hid (H_o_12.out.grown hb (Nat.le_refl _))
  clear hb B12 z12 H_l_12 H_k_12 H_p_12 H_d_12 H_o_12
  go_wp2_with fail
  refine (get_nothing H_l_13.out HL.out).mono ?_; rintro e w14 ⟨rfl, hb⟩
  have B14 := Lib.hid (B13.out.step hb z13)
  have z14 := B14.out.size
  have H_l_14 := Lib.hid (H_l_13.out.grown hb (Nat.le_refl _))
  have H_k_14 := Lib.hid (H_k_13.out.grown hb (Nat.le_refl _))
  have H_p_14 := Lib.hid (H_p_13.out.grown hb (Nat.le_refl _))
  have H_d_14 := Lib.hid (H_d_13.out.grown hb (Nat.le_refl _))
  have H_o_14 := Lib.hid (H_o_13.out.grown hb (Nat.le_refl _))
  clear hb B13 z13 H_l_13 H_k_13 H_p_13 H_d_13 H_o_13
  go_wp2_with fail
  refine (get_nothing H_p_14.out HP2.out).mono ?_; rintro e w15 ⟨rfl, hb⟩
  have B15 := Lib.hid (B14.out.step hb z14)
  have z15 := B15.out.size
  have H_l_15 := Lib.hid (H_l_14.out.grown hb (Nat.le_refl _))
  have H_k_15 := Lib.hid (H_k_14.out.grown hb (Nat.le_refl _))
  have H_p_15 := Lib.hid (H_p_14.out.grown hb (Nat.le_refl _))
  have H_d_15 := Lib.hid (H_d_14.out.grown hb (Nat.le_refl _))
  have H_o_15 := Lib.hid (H_o_14.out.grown hb (Nat.le_refl _))
  clear hb B14 z14 H_l_14 H_k_14 H_p_14 H_d_14 H_o_14
  go_wp2_with fail
  refine (get_nothing H_d_15.out HD2.out).mono ?_; rintro e w16 ⟨rfl, hb⟩
  have B16 := Lib.hid (B15.out.step hb z15)
  have z16 := B16.out.size
  have H_l_16 := Lib.hid (H_l_15.out.grown hb (Nat.le_refl _))
  have H_k_16 := Lib.hid (H_k_15.out.grown hb (Nat.le_refl _))
  have H_p_16 := Lib.hid (H_p_15.out.grown hb (Nat.le_refl _))
  have H_d_16 := Lib.hid (H_d_15.out.grown hb (Nat.le_refl _))
  have H_o_16 := Lib.hid (H_o_15.out.grown hb (Nat.le_refl _))
  clear hb B15 z15 H_l_15 H_k_15 H_p_15 H_d_15 H_o_15
  go_wp2_with fail
  refine (get_nothing H_o_16.out HO2.out).mono ?_; rintro e w17 ⟨rfl, hb⟩
  have B17 := Lib.hid (B16.out.step hb z16)
  have z17 := B17.out.size
  have H_l_17 := Lib.hid (H_l_16.out.grown hb (Nat.le_refl _))
  have H_k_17 := Lib.hid (H_k_16.out.grown hb (Nat.le_refl _))
  have H_p_17 := Lib.hid (H_p_16.out.grown hb (Nat.le_refl _))
  have H_d_17 := Lib.hid (H_d_16.out.grown hb (Nat.le_refl _))
  have H_o_17 := Lib.hid (H_o_16.out.grown hb (Nat.le_refl _))
  clear hb B16 z16 H_l_16 H_k_16 H_p_16 H_d_16 H_o_16
  go_wp2_with fail
  refine (get_nothing H_k_17.out HK.out).mono ?_; rintro e w18 ⟨rfl, hb⟩
  have B18 := Lib.hid (B17.out.step hb z17)
  have z18 := B18.out.size
  have H_l_18 := Lib.hid (H_l_17.out.grown hb (Nat.le_refl _))
  have H_k_18 := Lib.hid (H_k_17.out.grown hb (Nat.le_refl _))
  have H_p_18 := Lib.hid (H_p_17.out.grown hb (Nat.le_refl _))
  have H_d_18 := Lib.hid (H_d_17.out.grown hb (Nat.le_refl _))
  have H_o_18 := Lib.hid (H_o_17.out.grown hb (Nat.le_refl _))
  clear hb B17 z17 H_l_17 H_k_17 H_p_17 H_d_17 H_o_17
  go_wp2_with fail
  go_ret
  exact ⟨rfl, B18.out⟩

set_option maxRecDepth 100000 in
set_option maxHeartbeats 4000000 in
theorem back_all001 (v0 v1 : Value) (l k : Pairs) (name other v : ByteArray) (w : World) (h0 : Holds w v0 l) (h1 : Holds w v1 k) (y : ByteArray) (hzl : Small l) (hzk : Small k) (hfl : weight l < 3000) (hfk : weight k < 3000) (hrl : Rise l) (hrk : Rise k) (hs : ¬ name = other) (hL : get l other = none) (hK : get k other = some y) :
    Calls Try.prog 4 #[v0, v1, .string name, .string other, .string v] w fun e w' => e = .returned (.bool true) ∧ Below w.heap.size w w' := by
  have la := weight_len l; have lk := weight_len k; have p1 := put_length l name v; have m1 := merge_length l k
  have d1 : (drop l name).length ≤ l.length := List.length_filter_le _ _
  have HR1 := Lib.hid (put_rise hrl name v); have HR2 := Lib.hid (drop_rise hrl name); have HR3 := Lib.hid (merge_rise hrl hrk)
  have HP := Lib.hid (show get (put l name v) name = some v by rw [get_put hrl, if_pos rfl])
  have HD := Lib.hid (show get (drop l name) name = none by rw [get_drop, if_pos rfl])
  have HP2 := Lib.hid (show get (put l name v) other = none by rw [get_put hrl, if_neg hs, hL])
  have HD2 := Lib.hid (show get (drop l name) other = none by rw [get_drop, if_neg hs, hL])
  have HO2 := Lib.hid (show get (merge l k) other = some y by rw [get_merge hrl hrk, hK, hL]; rfl)
  have he : (other.toList == name.toList) = false := by rw [eq_lists]; simpa using fun e => hs e.symm
  have HRL := Lib.hid hrl; have HRK := Lib.hid hrk; have HL := Lib.hid hL; have HK := Lib.hid hK
  clear hrl hrk hs hL hK
  have H_l_0 := Lib.hid h0; have H_k_0 := Lib.hid h1
  clear h0 h1
  go_enter Try.func4, Try.ntmps4
  have B0 := Lib.hid (Below.refl w.heap.size w)
  have z0 : w.heap.size ≤ w.heap.size := Nat.le_refl _
  go_wp2_with fail
  refine (shown_true _).mono ?_; rintro e w1 ⟨rfl, hb⟩
  have B1 := Lib.hid (B0.out.step hb z0)
  have z1 := B1.out.size
  have H_l_1 := Lib.hid (H_l_0.out.grown hb (Nat.le_refl _))
  have H_k_1 := Lib.hid (H_k_0.out.grown hb (Nat.le_refl _))
  clear hb B0 z0 H_l_0 H_k_0
  go_wp2_with fail
  refine (few_yes v0 l _ H_l_1.out hzl hfl).mono ?_; rintro e w2 ⟨rfl, hb⟩
  have B2 := Lib.hid (B1.out.step hb z1)
  have z2 := B2.out.size
  have H_l_2 := Lib.hid (H_l_1.out.grown hb (Nat.le_refl _))
  have H_k_2 := Lib.hid (H_k_1.out.grown hb (Nat.le_refl _))
  clear hb B1 z1 H_l_1 H_k_1
  go_wp2_with fail
  refine (few_yes v1 k _ H_k_2.out hzk hfk).mono ?_; rintro e w3 ⟨rfl, hb⟩
  have B3 := Lib.hid (B2.out.step hb z2)
  have z3 := B3.out.size
  have H_l_3 := Lib.hid (H_l_2.out.grown hb (Nat.le_refl _))
  have H_k_3 := Lib.hid (H_k_2.out.grown hb (Nat.le_refl _))
  clear hb B2 z2 H_l_2 H_k_2
  go_wp2_with fail
  refine (right_yes v0 l _ H_l_3.out HRL.out).mono ?_; rintro e w4 ⟨rfl, hb⟩
  have B4 := Lib.hid (B3.out.step hb z3)
  have z4 := B4.out.size
  have H_l_4 := Lib.hid (H_l_3.out.grown hb (Nat.le_refl _))
  have H_k_4 := Lib.hid (H_k_3.out.grown hb (Nat.le_refl _))
  clear hb B3 z3 H_l_3 H_k_3
  go_wp2_with fail
  refine (right_yes v1 k _ H_k_4.out HRK.out).mono ?_; rintro e w5 ⟨rfl, hb⟩
  have B5 := Lib.hid (B4.out.step hb z4)
  have z5 := B5.out.size
  have H_l_5 := Lib.hid (H_l_4.out.grown hb (Nat.le_refl _))
  have H_k_5 := Lib.hid (H_k_4.out.grown hb (Nat.le_refl _))
  clear hb B4 z4 H_l_4 H_k_4
  go_wp2_with fail
  refine (put_any v0 l name v _ H_l_5.out HRL.out (by omega)).mono ?_; rintro e w6 ⟨p, rfl, hnew, hb⟩
  have B6 := Lib.hid (B5.out.step hb z5)
  have z6 := B6.out.size
  have H_l_6 := Lib.hid (H_l_5.out.grown hb (Nat.le_refl _))
  have H_k_6 := Lib.hid (H_k_5.out.grown hb (Nat.le_refl _))
  have H_p_6 := Lib.hid hnew
  clear hb B5 z5 hnew H_l_5 H_k_5
  go_wp2_with fail
  refine (drop_any v0 l name _ H_l_6.out HRL.out (by omega)).mono ?_; rintro e w7 ⟨d, rfl, hnew, hb⟩
  have B7 := Lib.hid (B6.out.step hb z6)
  have z7 := B7.out.size
  have H_l_7 := Lib.hid (H_l_6.out.grown hb (Nat.le_refl _))
  have H_k_7 := Lib.hid (H_k_6.out.grown hb (Nat.le_refl _))
  have H_p_7 := Lib.hid (H_p_6.out.grown hb (Nat.le_refl _))
  have H_d_7 := Lib.hid hnew
  clear hb B6 z6 hnew H_l_6 H_k_6 H_p_6
  go_wp2_with fail
  refine (over_any v0 v1 l k _ H_l_7.out H_k_7.out (by omega)).mono ?_; rintro e w8 ⟨o, rfl, hnew, hb⟩
  have B8 := Lib.hid (B7.out.step hb z7)
  have z8 := B8.out.size
  have H_l_8 := Lib.hid (H_l_7.out.grown hb (Nat.le_refl _))
  have H_k_8 := Lib.hid (H_k_7.out.grown hb (Nat.le_refl _))
  have H_p_8 := Lib.hid (H_p_7.out.grown hb (Nat.le_refl _))
  have H_d_8 := Lib.hid (H_d_7.out.grown hb (Nat.le_refl _))
  have H_o_8 := Lib.hid hnew
  clear hb B7 z7 hnew H_l_7 H_k_7 H_p_7 H_d_7
  go_wp2_with fail
  refine (get_some H_p_8.out HP.out).mono ?_; rintro e w9 ⟨rfl, hb⟩
  have B9 := Lib.hid (B8.out.step hb z8)
  have z9 := B9.out.size
  have H_l_9 := Lib.hid (H_l_8.out.grown hb (Nat.le_refl _))
  have H_k_9 := Lib.hid (H_k_8.out.grown hb (Nat.le_refl _))
  have H_p_9 := Lib.hid (H_p_8.out.grown hb (Nat.le_refl _))
  have H_d_9 := Lib.hid (H_d_8.out.grown hb (Nat.le_refl _))
  have H_o_9 := Lib.hid (H_o_8.out.grown hb (Nat.le_refl _))
  clear hb B8 z8 H_l_8 H_k_8 H_p_8 H_d_8 H_o_8
  go_wp2_with fail
  refine (get_nothing H_d_9.out HD.out).mono ?_; rintro e w10 ⟨rfl, hb⟩
  have B10 := Lib.hid (B9.out.step hb z9)
  have z10 := B10.out.size
  have H_l_10 := Lib.hid (H_l_9.out.grown hb (Nat.le_refl _))
  have H_k_10 := Lib.hid (H_k_9.out.grown hb (Nat.le_refl _))
  have H_p_10 := Lib.hid (H_p_9.out.grown hb (Nat.le_refl _))
  have H_d_10 := Lib.hid (H_d_9.out.grown hb (Nat.le_refl _))
  have H_o_10 := Lib.hid (H_o_9.out.grown hb (Nat.le_refl _))
  clear hb B9 z9 H_l_9 H_k_9 H_p_9 H_d_9 H_o_9
  go_wp2_with fail
  refine (right_yes p (put l name v) _ H_p_10.out HR1.out).mono ?_; rintro e w11 ⟨rfl, hb⟩
  have B11 := Lib.hid (B10.out.step hb z10)
  have z11 := B11.out.size
  have H_l_11 := Lib.hid (H_l_10.out.grown hb (Nat.le_refl _))
  have H_k_11 := Lib.hid (H_k_10.out.grown hb (Nat.le_refl _))
  have H_p_11 := Lib.hid (H_p_10.out.grown hb (Nat.le_refl _))
  have H_d_11 := Lib.hid (H_d_10.out.grown hb (Nat.le_refl _))
  have H_o_11 := Lib.hid (H_o_10.out.grown hb (Nat.le_refl _))
  clear hb B10 z10 H_l_10 H_k_10 H_p_10 H_d_10 H_o_10
  go_wp2_with fail
  refine (right_yes d (drop l name) _ H_d_11.out HR2.out).mono ?_; rintro e w12 ⟨rfl, hb⟩
  have B12 := Lib.hid (B11.out.step hb z11)
  have z12 := B12.out.size
  have H_l_12 := Lib.hid (H_l_11.out.grown hb (Nat.le_refl _))
  have H_k_12 := Lib.hid (H_k_11.out.grown hb (Nat.le_refl _))
  have H_p_12 := Lib.hid (H_p_11.out.grown hb (Nat.le_refl _))
  have H_d_12 := Lib.hid (H_d_11.out.grown hb (Nat.le_refl _))
  have H_o_12 := Lib.hid (H_o_11.out.grown hb (Nat.le_refl _))
  clear hb B11 z11 H_l_11 H_k_11 H_p_11 H_d_11 H_o_11
  go_wp2_with fail
  refine (right_yes o (merge l k) _ H_o_12.out HR3.out).mono ?_; rintro e w13 ⟨rfl, hb⟩
  have B13 := Lib.hid (B12.out.step hb z12)
  have z13 := B13.out.size
  have H_l_13 := Lib.hid (H_l_12.out.grown hb (Nat.le_refl _))
  have H_k_13 := Lib.hid (H_k_12.out.grown hb (Nat.le_refl _))
  have H_p_13 := Lib.hid (H_p_12.out.grown hb (Nat.le_refl _))
  have H_d_13 := Lib.hid (H_d_12.out.grown hb (Nat.le_refl _))
  have H_o_13 := Lib.hid (H_o_12.out.grown hb (Nat.le_refl _))
  clear hb B12 z12 H_l_12 H_k_12 H_p_12 H_d_12 H_o_12
  go_wp2_with fail
  refine (get_nothing H_l_13.out HL.out).mono ?_; rintro e w14 ⟨rfl, hb⟩
  have B14 := Lib.hid (B13.out.step hb z13)
  have z14 := B14.out.size
  have H_l_14 := Lib.hid (H_l_13.out.grown hb (Nat.le_refl _))
  have H_k_14 := Lib.hid (H_k_13.out.grown hb (Nat.le_refl _))
  have H_p_14 := Lib.hid (H_p_13.out.grown hb (Nat.le_refl _))
  have H_d_14 := Lib.hid (H_d_13.out.grown hb (Nat.le_refl _))
  have H_o_14 := Lib.hid (H_o_13.out.grown hb (Nat.le_refl _))
  clear hb B13 z13 H_l_13 H_k_13 H_p_13 H_d_13 H_o_13
  go_wp2_with fail
  refine (get_nothing H_p_14.out HP2.out).mono ?_; rintro e w15 ⟨rfl, hb⟩
  have B15 := Lib.hid (B14.out.step hb z14)
  have z15 := B15.out.size
  have H_l_15 := Lib.hid (H_l_14.out.grown hb (Nat.le_refl _))
  have H_k_15 := Lib.hid (H_k_14.out.grown hb (Nat.le_refl _))
  have H_p_15 := Lib.hid (H_p_14.out.grown hb (Nat.le_refl _))
  have H_d_15 := Lib.hid (H_d_14.out.grown hb (Nat.le_refl _))
  have H_o_15 := Lib.hid (H_o_14.out.grown hb (Nat.le_refl _))
  clear hb B14 z14 H_l_14 H_k_14 H_p_14 H_d_14 H_o_14
  go_wp2_with fail
  refine (get_nothing H_d_15.out HD2.out).mono ?_; rintro e w16 ⟨rfl, hb⟩
  have B16 := Lib.hid (B15.out.step hb z15)
  have z16 := B16.out.size
  have H_l_16 := Lib.hid (H_l_15.out.grown hb (Nat.le_refl _))
  have H_k_16 := Lib.hid (H_k_15.out.grown hb (Nat.le_refl _))
  have H_p_16 := Lib.hid (H_p_15.out.grown hb (Nat.le_refl _))
  have H_d_16 := Lib.hid (H_d_15.out.grown hb (Nat.le_refl _))
  have H_o_16 := Lib.hid (H_o_15.out.grown hb (Nat.le_refl _))
  clear hb B15 z15 H_l_15 H_k_15 H_p_15 H_d_15 H_o_15
  go_wp2_with fail
  refine (get_some H_o_16.out HO2.out).mono ?_; rintro e w17 ⟨rfl, hb⟩
  have B17 := Lib.hid (B16.out.step hb z16)
  have z17 := B17.out.size
  have H_l_17 := Lib.hid (H_l_16.out.grown hb (Nat.le_refl _))
  have H_k_17 := Lib.hid (H_k_16.out.grown hb (Nat.le_refl _))
  have H_p_17 := Lib.hid (H_p_16.out.grown hb (Nat.le_refl _))
  have H_d_17 := Lib.hid (H_d_16.out.grown hb (Nat.le_refl _))
  have H_o_17 := Lib.hid (H_o_16.out.grown hb (Nat.le_refl _))
  clear hb B16 z16 H_l_16 H_k_16 H_p_16 H_d_16 H_o_16
  go_wp2_with fail
  refine (get_some H_k_17.out HK.out).mono ?_; rintro e w18 ⟨rfl, hb⟩
  have B18 := Lib.hid (B17.out.step hb z17)
  have z18 := B18.out.size
  have H_l_18 := Lib.hid (H_l_17.out.grown hb (Nat.le_refl _))
  have H_k_18 := Lib.hid (H_k_17.out.grown hb (Nat.le_refl _))
  have H_p_18 := Lib.hid (H_p_17.out.grown hb (Nat.le_refl _))
  have H_d_18 := Lib.hid (H_d_17.out.grown hb (Nat.le_refl _))
  have H_o_18 := Lib.hid (H_o_17.out.grown hb (Nat.le_refl _))
  clear hb B17 z17 H_l_17 H_k_17 H_p_17 H_d_17 H_o_17
  go_wp2_with fail
  go_ret
  exact ⟨rfl, B18.out⟩

set_option maxRecDepth 100000 in
set_option maxHeartbeats 4000000 in
theorem back_all010 (v0 v1 : Value) (l k : Pairs) (name other v : ByteArray) (w : World) (h0 : Holds w v0 l) (h1 : Holds w v1 k) (x : ByteArray) (hzl : Small l) (hzk : Small k) (hfl : weight l < 3000) (hfk : weight k < 3000) (hrl : Rise l) (hrk : Rise k) (hs : ¬ name = other) (hL : get l other = some x) (hK : get k other = none) :
    Calls Try.prog 4 #[v0, v1, .string name, .string other, .string v] w fun e w' => e = .returned (.bool true) ∧ Below w.heap.size w w' := by
  have la := weight_len l; have lk := weight_len k; have p1 := put_length l name v; have m1 := merge_length l k
  have d1 : (drop l name).length ≤ l.length := List.length_filter_le _ _
  have HR1 := Lib.hid (put_rise hrl name v); have HR2 := Lib.hid (drop_rise hrl name); have HR3 := Lib.hid (merge_rise hrl hrk)
  have HP := Lib.hid (show get (put l name v) name = some v by rw [get_put hrl, if_pos rfl])
  have HD := Lib.hid (show get (drop l name) name = none by rw [get_drop, if_pos rfl])
  have HP2 := Lib.hid (show get (put l name v) other = some x by rw [get_put hrl, if_neg hs, hL])
  have HD2 := Lib.hid (show get (drop l name) other = some x by rw [get_drop, if_neg hs, hL])
  have HO2 := Lib.hid (show get (merge l k) other = some x by rw [get_merge hrl hrk, hK, hL]; rfl)
  have he : (other.toList == name.toList) = false := by rw [eq_lists]; simpa using fun e => hs e.symm
  have HRL := Lib.hid hrl; have HRK := Lib.hid hrk; have HL := Lib.hid hL; have HK := Lib.hid hK
  clear hrl hrk hs hL hK
  have H_l_0 := Lib.hid h0; have H_k_0 := Lib.hid h1
  clear h0 h1
  go_enter Try.func4, Try.ntmps4
  have B0 := Lib.hid (Below.refl w.heap.size w)
  have z0 : w.heap.size ≤ w.heap.size := Nat.le_refl _
  go_wp2_with fail
  refine (shown_true _).mono ?_; rintro e w1 ⟨rfl, hb⟩
  have B1 := Lib.hid (B0.out.step hb z0)
  have z1 := B1.out.size
  have H_l_1 := Lib.hid (H_l_0.out.grown hb (Nat.le_refl _))
  have H_k_1 := Lib.hid (H_k_0.out.grown hb (Nat.le_refl _))
  clear hb B0 z0 H_l_0 H_k_0
  go_wp2_with fail
  refine (few_yes v0 l _ H_l_1.out hzl hfl).mono ?_; rintro e w2 ⟨rfl, hb⟩
  have B2 := Lib.hid (B1.out.step hb z1)
  have z2 := B2.out.size
  have H_l_2 := Lib.hid (H_l_1.out.grown hb (Nat.le_refl _))
  have H_k_2 := Lib.hid (H_k_1.out.grown hb (Nat.le_refl _))
  clear hb B1 z1 H_l_1 H_k_1
  go_wp2_with fail
  refine (few_yes v1 k _ H_k_2.out hzk hfk).mono ?_; rintro e w3 ⟨rfl, hb⟩
  have B3 := Lib.hid (B2.out.step hb z2)
  have z3 := B3.out.size
  have H_l_3 := Lib.hid (H_l_2.out.grown hb (Nat.le_refl _))
  have H_k_3 := Lib.hid (H_k_2.out.grown hb (Nat.le_refl _))
  clear hb B2 z2 H_l_2 H_k_2
  go_wp2_with fail
  refine (right_yes v0 l _ H_l_3.out HRL.out).mono ?_; rintro e w4 ⟨rfl, hb⟩
  have B4 := Lib.hid (B3.out.step hb z3)
  have z4 := B4.out.size
  have H_l_4 := Lib.hid (H_l_3.out.grown hb (Nat.le_refl _))
  have H_k_4 := Lib.hid (H_k_3.out.grown hb (Nat.le_refl _))
  clear hb B3 z3 H_l_3 H_k_3
  go_wp2_with fail
  refine (right_yes v1 k _ H_k_4.out HRK.out).mono ?_; rintro e w5 ⟨rfl, hb⟩
  have B5 := Lib.hid (B4.out.step hb z4)
  have z5 := B5.out.size
  have H_l_5 := Lib.hid (H_l_4.out.grown hb (Nat.le_refl _))
  have H_k_5 := Lib.hid (H_k_4.out.grown hb (Nat.le_refl _))
  clear hb B4 z4 H_l_4 H_k_4
  go_wp2_with fail
  refine (put_any v0 l name v _ H_l_5.out HRL.out (by omega)).mono ?_; rintro e w6 ⟨p, rfl, hnew, hb⟩
  have B6 := Lib.hid (B5.out.step hb z5)
  have z6 := B6.out.size
  have H_l_6 := Lib.hid (H_l_5.out.grown hb (Nat.le_refl _))
  have H_k_6 := Lib.hid (H_k_5.out.grown hb (Nat.le_refl _))
  have H_p_6 := Lib.hid hnew
  clear hb B5 z5 hnew H_l_5 H_k_5
  go_wp2_with fail
  refine (drop_any v0 l name _ H_l_6.out HRL.out (by omega)).mono ?_; rintro e w7 ⟨d, rfl, hnew, hb⟩
  have B7 := Lib.hid (B6.out.step hb z6)
  have z7 := B7.out.size
  have H_l_7 := Lib.hid (H_l_6.out.grown hb (Nat.le_refl _))
  have H_k_7 := Lib.hid (H_k_6.out.grown hb (Nat.le_refl _))
  have H_p_7 := Lib.hid (H_p_6.out.grown hb (Nat.le_refl _))
  have H_d_7 := Lib.hid hnew
  clear hb B6 z6 hnew H_l_6 H_k_6 H_p_6
  go_wp2_with fail
  refine (over_any v0 v1 l k _ H_l_7.out H_k_7.out (by omega)).mono ?_; rintro e w8 ⟨o, rfl, hnew, hb⟩
  have B8 := Lib.hid (B7.out.step hb z7)
  have z8 := B8.out.size
  have H_l_8 := Lib.hid (H_l_7.out.grown hb (Nat.le_refl _))
  have H_k_8 := Lib.hid (H_k_7.out.grown hb (Nat.le_refl _))
  have H_p_8 := Lib.hid (H_p_7.out.grown hb (Nat.le_refl _))
  have H_d_8 := Lib.hid (H_d_7.out.grown hb (Nat.le_refl _))
  have H_o_8 := Lib.hid hnew
  clear hb B7 z7 hnew H_l_7 H_k_7 H_p_7 H_d_7
  go_wp2_with fail
  refine (get_some H_p_8.out HP.out).mono ?_; rintro e w9 ⟨rfl, hb⟩
  have B9 := Lib.hid (B8.out.step hb z8)
  have z9 := B9.out.size
  have H_l_9 := Lib.hid (H_l_8.out.grown hb (Nat.le_refl _))
  have H_k_9 := Lib.hid (H_k_8.out.grown hb (Nat.le_refl _))
  have H_p_9 := Lib.hid (H_p_8.out.grown hb (Nat.le_refl _))
  have H_d_9 := Lib.hid (H_d_8.out.grown hb (Nat.le_refl _))
  have H_o_9 := Lib.hid (H_o_8.out.grown hb (Nat.le_refl _))
  clear hb B8 z8 H_l_8 H_k_8 H_p_8 H_d_8 H_o_8
  go_wp2_with fail
  refine (get_nothing H_d_9.out HD.out).mono ?_; rintro e w10 ⟨rfl, hb⟩
  have B10 := Lib.hid (B9.out.step hb z9)
  have z10 := B10.out.size
  have H_l_10 := Lib.hid (H_l_9.out.grown hb (Nat.le_refl _))
  have H_k_10 := Lib.hid (H_k_9.out.grown hb (Nat.le_refl _))
  have H_p_10 := Lib.hid (H_p_9.out.grown hb (Nat.le_refl _))
  have H_d_10 := Lib.hid (H_d_9.out.grown hb (Nat.le_refl _))
  have H_o_10 := Lib.hid (H_o_9.out.grown hb (Nat.le_refl _))
  clear hb B9 z9 H_l_9 H_k_9 H_p_9 H_d_9 H_o_9
  go_wp2_with fail
  refine (right_yes p (put l name v) _ H_p_10.out HR1.out).mono ?_; rintro e w11 ⟨rfl, hb⟩
  have B11 := Lib.hid (B10.out.step hb z10)
  have z11 := B11.out.size
  have H_l_11 := Lib.hid (H_l_10.out.grown hb (Nat.le_refl _))
  have H_k_11 := Lib.hid (H_k_10.out.grown hb (Nat.le_refl _))
  have H_p_11 := Lib.hid (H_p_10.out.grown hb (Nat.le_refl _))
  have H_d_11 := Lib.hid (H_d_10.out.grown hb (Nat.le_refl _))
  have H_o_11 := Lib.hid (H_o_10.out.grown hb (Nat.le_refl _))
  clear hb B10 z10 H_l_10 H_k_10 H_p_10 H_d_10 H_o_10
  go_wp2_with fail
  refine (right_yes d (drop l name) _ H_d_11.out HR2.out).mono ?_; rintro e w12 ⟨rfl, hb⟩
  have B12 := Lib.hid (B11.out.step hb z11)
  have z12 := B12.out.size
  have H_l_12 := Lib.hid (H_l_11.out.grown hb (Nat.le_refl _))
  have H_k_12 := Lib.hid (H_k_11.out.grown hb (Nat.le_refl _))
  have H_p_12 := Lib.hid (H_p_11.out.grown hb (Nat.le_refl _))
  have H_d_12 := Lib.hid (H_d_11.out.grown hb (Nat.le_refl _))
  have H_o_12 := Lib.hid (H_o_11.out.grown hb (Nat.le_refl _))
  clear hb B11 z11 H_l_11 H_k_11 H_p_11 H_d_11 H_o_11
  go_wp2_with fail
  refine (right_yes o (merge l k) _ H_o_12.out HR3.out).mono ?_; rintro e w13 ⟨rfl, hb⟩
  have B13 := Lib.hid (B12.out.step hb z12)
  have z13 := B13.out.size
  have H_l_13 := Lib.hid (H_l_12.out.grown hb (Nat.le_refl _))
  have H_k_13 := Lib.hid (H_k_12.out.grown hb (Nat.le_refl _))
  have H_p_13 := Lib.hid (H_p_12.out.grown hb (Nat.le_refl _))
  have H_d_13 := Lib.hid (H_d_12.out.grown hb (Nat.le_refl _))
  have H_o_13 := Lib.hid (H_o_12.out.grown hb (Nat.le_refl _))
  clear hb B12 z12 H_l_12 H_k_12 H_p_12 H_d_12 H_o_12
  go_wp2_with fail
  refine (get_some H_l_13.out HL.out).mono ?_; rintro e w14 ⟨rfl, hb⟩
  have B14 := Lib.hid (B13.out.step hb z13)
  have z14 := B14.out.size
  have H_l_14 := Lib.hid (H_l_13.out.grown hb (Nat.le_refl _))
  have H_k_14 := Lib.hid (H_k_13.out.grown hb (Nat.le_refl _))
  have H_p_14 := Lib.hid (H_p_13.out.grown hb (Nat.le_refl _))
  have H_d_14 := Lib.hid (H_d_13.out.grown hb (Nat.le_refl _))
  have H_o_14 := Lib.hid (H_o_13.out.grown hb (Nat.le_refl _))
  clear hb B13 z13 H_l_13 H_k_13 H_p_13 H_d_13 H_o_13
  go_wp2_with fail
  refine (get_some H_p_14.out HP2.out).mono ?_; rintro e w15 ⟨rfl, hb⟩
  have B15 := Lib.hid (B14.out.step hb z14)
  have z15 := B15.out.size
  have H_l_15 := Lib.hid (H_l_14.out.grown hb (Nat.le_refl _))
  have H_k_15 := Lib.hid (H_k_14.out.grown hb (Nat.le_refl _))
  have H_p_15 := Lib.hid (H_p_14.out.grown hb (Nat.le_refl _))
  have H_d_15 := Lib.hid (H_d_14.out.grown hb (Nat.le_refl _))
  have H_o_15 := Lib.hid (H_o_14.out.grown hb (Nat.le_refl _))
  clear hb B14 z14 H_l_14 H_k_14 H_p_14 H_d_14 H_o_14
  go_wp2_with fail
  refine (get_some H_d_15.out HD2.out).mono ?_; rintro e w16 ⟨rfl, hb⟩
  have B16 := Lib.hid (B15.out.step hb z15)
  have z16 := B16.out.size
  have H_l_16 := Lib.hid (H_l_15.out.grown hb (Nat.le_refl _))
  have H_k_16 := Lib.hid (H_k_15.out.grown hb (Nat.le_refl _))
  have H_p_16 := Lib.hid (H_p_15.out.grown hb (Nat.le_refl _))
  have H_d_16 := Lib.hid (H_d_15.out.grown hb (Nat.le_refl _))
  have H_o_16 := Lib.hid (H_o_15.out.grown hb (Nat.le_refl _))
  clear hb B15 z15 H_l_15 H_k_15 H_p_15 H_d_15 H_o_15
  go_wp2_with fail
  refine (get_some H_o_16.out HO2.out).mono ?_; rintro e w17 ⟨rfl, hb⟩
  have B17 := Lib.hid (B16.out.step hb z16)
  have z17 := B17.out.size
  have H_l_17 := Lib.hid (H_l_16.out.grown hb (Nat.le_refl _))
  have H_k_17 := Lib.hid (H_k_16.out.grown hb (Nat.le_refl _))
  have H_p_17 := Lib.hid (H_p_16.out.grown hb (Nat.le_refl _))
  have H_d_17 := Lib.hid (H_d_16.out.grown hb (Nat.le_refl _))
  have H_o_17 := Lib.hid (H_o_16.out.grown hb (Nat.le_refl _))
  clear hb B16 z16 H_l_16 H_k_16 H_p_16 H_d_16 H_o_16
  go_wp2_with fail
  refine (get_nothing H_k_17.out HK.out).mono ?_; rintro e w18 ⟨rfl, hb⟩
  have B18 := Lib.hid (B17.out.step hb z17)
  have z18 := B18.out.size
  have H_l_18 := Lib.hid (H_l_17.out.grown hb (Nat.le_refl _))
  have H_k_18 := Lib.hid (H_k_17.out.grown hb (Nat.le_refl _))
  have H_p_18 := Lib.hid (H_p_17.out.grown hb (Nat.le_refl _))
  have H_d_18 := Lib.hid (H_d_17.out.grown hb (Nat.le_refl _))
  have H_o_18 := Lib.hid (H_o_17.out.grown hb (Nat.le_refl _))
  clear hb B17 z17 H_l_17 H_k_17 H_p_17 H_d_17 H_o_17
  go_wp2_with fail
  go_ret
  exact ⟨rfl, B18.out⟩

set_option maxRecDepth 100000 in
set_option maxHeartbeats 4000000 in
theorem back_all011 (v0 v1 : Value) (l k : Pairs) (name other v : ByteArray) (w : World) (h0 : Holds w v0 l) (h1 : Holds w v1 k) (x : ByteArray) (y : ByteArray) (hzl : Small l) (hzk : Small k) (hfl : weight l < 3000) (hfk : weight k < 3000) (hrl : Rise l) (hrk : Rise k) (hs : ¬ name = other) (hL : get l other = some x) (hK : get k other = some y) :
    Calls Try.prog 4 #[v0, v1, .string name, .string other, .string v] w fun e w' => e = .returned (.bool true) ∧ Below w.heap.size w w' := by
  have la := weight_len l; have lk := weight_len k; have p1 := put_length l name v; have m1 := merge_length l k
  have d1 : (drop l name).length ≤ l.length := List.length_filter_le _ _
  have HR1 := Lib.hid (put_rise hrl name v); have HR2 := Lib.hid (drop_rise hrl name); have HR3 := Lib.hid (merge_rise hrl hrk)
  have HP := Lib.hid (show get (put l name v) name = some v by rw [get_put hrl, if_pos rfl])
  have HD := Lib.hid (show get (drop l name) name = none by rw [get_drop, if_pos rfl])
  have HP2 := Lib.hid (show get (put l name v) other = some x by rw [get_put hrl, if_neg hs, hL])
  have HD2 := Lib.hid (show get (drop l name) other = some x by rw [get_drop, if_neg hs, hL])
  have HO2 := Lib.hid (show get (merge l k) other = some y by rw [get_merge hrl hrk, hK, hL]; rfl)
  have he : (other.toList == name.toList) = false := by rw [eq_lists]; simpa using fun e => hs e.symm
  have HRL := Lib.hid hrl; have HRK := Lib.hid hrk; have HL := Lib.hid hL; have HK := Lib.hid hK
  clear hrl hrk hs hL hK
  have H_l_0 := Lib.hid h0; have H_k_0 := Lib.hid h1
  clear h0 h1
  go_enter Try.func4, Try.ntmps4
  have B0 := Lib.hid (Below.refl w.heap.size w)
  have z0 : w.heap.size ≤ w.heap.size := Nat.le_refl _
  go_wp2_with fail
  refine (shown_true _).mono ?_; rintro e w1 ⟨rfl, hb⟩
  have B1 := Lib.hid (B0.out.step hb z0)
  have z1 := B1.out.size
  have H_l_1 := Lib.hid (H_l_0.out.grown hb (Nat.le_refl _))
  have H_k_1 := Lib.hid (H_k_0.out.grown hb (Nat.le_refl _))
  clear hb B0 z0 H_l_0 H_k_0
  go_wp2_with fail
  refine (few_yes v0 l _ H_l_1.out hzl hfl).mono ?_; rintro e w2 ⟨rfl, hb⟩
  have B2 := Lib.hid (B1.out.step hb z1)
  have z2 := B2.out.size
  have H_l_2 := Lib.hid (H_l_1.out.grown hb (Nat.le_refl _))
  have H_k_2 := Lib.hid (H_k_1.out.grown hb (Nat.le_refl _))
  clear hb B1 z1 H_l_1 H_k_1
  go_wp2_with fail
  refine (few_yes v1 k _ H_k_2.out hzk hfk).mono ?_; rintro e w3 ⟨rfl, hb⟩
  have B3 := Lib.hid (B2.out.step hb z2)
  have z3 := B3.out.size
  have H_l_3 := Lib.hid (H_l_2.out.grown hb (Nat.le_refl _))
  have H_k_3 := Lib.hid (H_k_2.out.grown hb (Nat.le_refl _))
  clear hb B2 z2 H_l_2 H_k_2
  go_wp2_with fail
  refine (right_yes v0 l _ H_l_3.out HRL.out).mono ?_; rintro e w4 ⟨rfl, hb⟩
  have B4 := Lib.hid (B3.out.step hb z3)
  have z4 := B4.out.size
  have H_l_4 := Lib.hid (H_l_3.out.grown hb (Nat.le_refl _))
  have H_k_4 := Lib.hid (H_k_3.out.grown hb (Nat.le_refl _))
  clear hb B3 z3 H_l_3 H_k_3
  go_wp2_with fail
  refine (right_yes v1 k _ H_k_4.out HRK.out).mono ?_; rintro e w5 ⟨rfl, hb⟩
  have B5 := Lib.hid (B4.out.step hb z4)
  have z5 := B5.out.size
  have H_l_5 := Lib.hid (H_l_4.out.grown hb (Nat.le_refl _))
  have H_k_5 := Lib.hid (H_k_4.out.grown hb (Nat.le_refl _))
  clear hb B4 z4 H_l_4 H_k_4
  go_wp2_with fail
  refine (put_any v0 l name v _ H_l_5.out HRL.out (by omega)).mono ?_; rintro e w6 ⟨p, rfl, hnew, hb⟩
  have B6 := Lib.hid (B5.out.step hb z5)
  have z6 := B6.out.size
  have H_l_6 := Lib.hid (H_l_5.out.grown hb (Nat.le_refl _))
  have H_k_6 := Lib.hid (H_k_5.out.grown hb (Nat.le_refl _))
  have H_p_6 := Lib.hid hnew
  clear hb B5 z5 hnew H_l_5 H_k_5
  go_wp2_with fail
  refine (drop_any v0 l name _ H_l_6.out HRL.out (by omega)).mono ?_; rintro e w7 ⟨d, rfl, hnew, hb⟩
  have B7 := Lib.hid (B6.out.step hb z6)
  have z7 := B7.out.size
  have H_l_7 := Lib.hid (H_l_6.out.grown hb (Nat.le_refl _))
  have H_k_7 := Lib.hid (H_k_6.out.grown hb (Nat.le_refl _))
  have H_p_7 := Lib.hid (H_p_6.out.grown hb (Nat.le_refl _))
  have H_d_7 := Lib.hid hnew
  clear hb B6 z6 hnew H_l_6 H_k_6 H_p_6
  go_wp2_with fail
  refine (over_any v0 v1 l k _ H_l_7.out H_k_7.out (by omega)).mono ?_; rintro e w8 ⟨o, rfl, hnew, hb⟩
  have B8 := Lib.hid (B7.out.step hb z7)
  have z8 := B8.out.size
  have H_l_8 := Lib.hid (H_l_7.out.grown hb (Nat.le_refl _))
  have H_k_8 := Lib.hid (H_k_7.out.grown hb (Nat.le_refl _))
  have H_p_8 := Lib.hid (H_p_7.out.grown hb (Nat.le_refl _))
  have H_d_8 := Lib.hid (H_d_7.out.grown hb (Nat.le_refl _))
  have H_o_8 := Lib.hid hnew
  clear hb B7 z7 hnew H_l_7 H_k_7 H_p_7 H_d_7
  go_wp2_with fail
  refine (get_some H_p_8.out HP.out).mono ?_; rintro e w9 ⟨rfl, hb⟩
  have B9 := Lib.hid (B8.out.step hb z8)
  have z9 := B9.out.size
  have H_l_9 := Lib.hid (H_l_8.out.grown hb (Nat.le_refl _))
  have H_k_9 := Lib.hid (H_k_8.out.grown hb (Nat.le_refl _))
  have H_p_9 := Lib.hid (H_p_8.out.grown hb (Nat.le_refl _))
  have H_d_9 := Lib.hid (H_d_8.out.grown hb (Nat.le_refl _))
  have H_o_9 := Lib.hid (H_o_8.out.grown hb (Nat.le_refl _))
  clear hb B8 z8 H_l_8 H_k_8 H_p_8 H_d_8 H_o_8
  go_wp2_with fail
  refine (get_nothing H_d_9.out HD.out).mono ?_; rintro e w10 ⟨rfl, hb⟩
  have B10 := Lib.hid (B9.out.step hb z9)
  have z10 := B10.out.size
  have H_l_10 := Lib.hid (H_l_9.out.grown hb (Nat.le_refl _))
  have H_k_10 := Lib.hid (H_k_9.out.grown hb (Nat.le_refl _))
  have H_p_10 := Lib.hid (H_p_9.out.grown hb (Nat.le_refl _))
  have H_d_10 := Lib.hid (H_d_9.out.grown hb (Nat.le_refl _))
  have H_o_10 := Lib.hid (H_o_9.out.grown hb (Nat.le_refl _))
  clear hb B9 z9 H_l_9 H_k_9 H_p_9 H_d_9 H_o_9
  go_wp2_with fail
  refine (right_yes p (put l name v) _ H_p_10.out HR1.out).mono ?_; rintro e w11 ⟨rfl, hb⟩
  have B11 := Lib.hid (B10.out.step hb z10)
  have z11 := B11.out.size
  have H_l_11 := Lib.hid (H_l_10.out.grown hb (Nat.le_refl _))
  have H_k_11 := Lib.hid (H_k_10.out.grown hb (Nat.le_refl _))
  have H_p_11 := Lib.hid (H_p_10.out.grown hb (Nat.le_refl _))
  have H_d_11 := Lib.hid (H_d_10.out.grown hb (Nat.le_refl _))
  have H_o_11 := Lib.hid (H_o_10.out.grown hb (Nat.le_refl _))
  clear hb B10 z10 H_l_10 H_k_10 H_p_10 H_d_10 H_o_10
  go_wp2_with fail
  refine (right_yes d (drop l name) _ H_d_11.out HR2.out).mono ?_; rintro e w12 ⟨rfl, hb⟩
  have B12 := Lib.hid (B11.out.step hb z11)
  have z12 := B12.out.size
  have H_l_12 := Lib.hid (H_l_11.out.grown hb (Nat.le_refl _))
  have H_k_12 := Lib.hid (H_k_11.out.grown hb (Nat.le_refl _))
  have H_p_12 := Lib.hid (H_p_11.out.grown hb (Nat.le_refl _))
  have H_d_12 := Lib.hid (H_d_11.out.grown hb (Nat.le_refl _))
  have H_o_12 := Lib.hid (H_o_11.out.grown hb (Nat.le_refl _))
  clear hb B11 z11 H_l_11 H_k_11 H_p_11 H_d_11 H_o_11
  go_wp2_with fail
  refine (right_yes o (merge l k) _ H_o_12.out HR3.out).mono ?_; rintro e w13 ⟨rfl, hb⟩
  have B13 := Lib.hid (B12.out.step hb z12)
  have z13 := B13.out.size
  have H_l_13 := Lib.hid (H_l_12.out.grown hb (Nat.le_refl _))
  have H_k_13 := Lib.hid (H_k_12.out.grown hb (Nat.le_refl _))
  have H_p_13 := Lib.hid (H_p_12.out.grown hb (Nat.le_refl _))
  have H_d_13 := Lib.hid (H_d_12.out.grown hb (Nat.le_refl _))
  have H_o_13 := Lib.hid (H_o_12.out.grown hb (Nat.le_refl _))
  clear hb B12 z12 H_l_12 H_k_12 H_p_12 H_d_12 H_o_12
  go_wp2_with fail
  refine (get_some H_l_13.out HL.out).mono ?_; rintro e w14 ⟨rfl, hb⟩
  have B14 := Lib.hid (B13.out.step hb z13)
  have z14 := B14.out.size
  have H_l_14 := Lib.hid (H_l_13.out.grown hb (Nat.le_refl _))
  have H_k_14 := Lib.hid (H_k_13.out.grown hb (Nat.le_refl _))
  have H_p_14 := Lib.hid (H_p_13.out.grown hb (Nat.le_refl _))
  have H_d_14 := Lib.hid (H_d_13.out.grown hb (Nat.le_refl _))
  have H_o_14 := Lib.hid (H_o_13.out.grown hb (Nat.le_refl _))
  clear hb B13 z13 H_l_13 H_k_13 H_p_13 H_d_13 H_o_13
  go_wp2_with fail
  refine (get_some H_p_14.out HP2.out).mono ?_; rintro e w15 ⟨rfl, hb⟩
  have B15 := Lib.hid (B14.out.step hb z14)
  have z15 := B15.out.size
  have H_l_15 := Lib.hid (H_l_14.out.grown hb (Nat.le_refl _))
  have H_k_15 := Lib.hid (H_k_14.out.grown hb (Nat.le_refl _))
  have H_p_15 := Lib.hid (H_p_14.out.grown hb (Nat.le_refl _))
  have H_d_15 := Lib.hid (H_d_14.out.grown hb (Nat.le_refl _))
  have H_o_15 := Lib.hid (H_o_14.out.grown hb (Nat.le_refl _))
  clear hb B14 z14 H_l_14 H_k_14 H_p_14 H_d_14 H_o_14
  go_wp2_with fail
  refine (get_some H_d_15.out HD2.out).mono ?_; rintro e w16 ⟨rfl, hb⟩
  have B16 := Lib.hid (B15.out.step hb z15)
  have z16 := B16.out.size
  have H_l_16 := Lib.hid (H_l_15.out.grown hb (Nat.le_refl _))
  have H_k_16 := Lib.hid (H_k_15.out.grown hb (Nat.le_refl _))
  have H_p_16 := Lib.hid (H_p_15.out.grown hb (Nat.le_refl _))
  have H_d_16 := Lib.hid (H_d_15.out.grown hb (Nat.le_refl _))
  have H_o_16 := Lib.hid (H_o_15.out.grown hb (Nat.le_refl _))
  clear hb B15 z15 H_l_15 H_k_15 H_p_15 H_d_15 H_o_15
  go_wp2_with fail
  refine (get_some H_o_16.out HO2.out).mono ?_; rintro e w17 ⟨rfl, hb⟩
  have B17 := Lib.hid (B16.out.step hb z16)
  have z17 := B17.out.size
  have H_l_17 := Lib.hid (H_l_16.out.grown hb (Nat.le_refl _))
  have H_k_17 := Lib.hid (H_k_16.out.grown hb (Nat.le_refl _))
  have H_p_17 := Lib.hid (H_p_16.out.grown hb (Nat.le_refl _))
  have H_d_17 := Lib.hid (H_d_16.out.grown hb (Nat.le_refl _))
  have H_o_17 := Lib.hid (H_o_16.out.grown hb (Nat.le_refl _))
  clear hb B16 z16 H_l_16 H_k_16 H_p_16 H_d_16 H_o_16
  go_wp2_with fail
  refine (get_some H_k_17.out HK.out).mono ?_; rintro e w18 ⟨rfl, hb⟩
  have B18 := Lib.hid (B17.out.step hb z17)
  have z18 := B18.out.size
  have H_l_18 := Lib.hid (H_l_17.out.grown hb (Nat.le_refl _))
  have H_k_18 := Lib.hid (H_k_17.out.grown hb (Nat.le_refl _))
  have H_p_18 := Lib.hid (H_p_17.out.grown hb (Nat.le_refl _))
  have H_d_18 := Lib.hid (H_d_17.out.grown hb (Nat.le_refl _))
  have H_o_18 := Lib.hid (H_o_17.out.grown hb (Nat.le_refl _))
  clear hb B17 z17 H_l_17 H_k_17 H_p_17 H_d_17 H_o_17
  go_wp2_with fail
  go_ret
  exact ⟨rfl, B18.out⟩

set_option maxRecDepth 100000 in
set_option maxHeartbeats 4000000 in
theorem back_all100 (v0 v1 : Value) (l k : Pairs) (name other v : ByteArray) (w : World) (h0 : Holds w v0 l) (h1 : Holds w v1 k) (hzl : Small l) (hzk : Small k) (hfl : weight l < 3000) (hfk : weight k < 3000) (hrl : Rise l) (hrk : Rise k) (hs : name = other) (hL : get l other = none) (hK : get k other = none) :
    Calls Try.prog 4 #[v0, v1, .string name, .string other, .string v] w fun e w' => e = .returned (.bool true) ∧ Below w.heap.size w w' := by
  have la := weight_len l; have lk := weight_len k; have p1 := put_length l name v; have m1 := merge_length l k
  have d1 : (drop l name).length ≤ l.length := List.length_filter_le _ _
  have HR1 := Lib.hid (put_rise hrl name v); have HR2 := Lib.hid (drop_rise hrl name); have HR3 := Lib.hid (merge_rise hrl hrk)
  have HP := Lib.hid (show get (put l name v) name = some v by rw [get_put hrl, if_pos rfl])
  have HD := Lib.hid (show get (drop l name) name = none by rw [get_drop, if_pos rfl])
  have HP2 := Lib.hid (show get (put l name v) other = some v by rw [get_put hrl, if_pos hs])
  have HD2 := Lib.hid (show get (drop l name) other = none by rw [get_drop, if_pos hs])
  have HO2 := Lib.hid (show get (merge l k) other = none by rw [get_merge hrl hrk, hK, hL]; rfl)
  have he : (other.toList == name.toList) = true := by rw [hs]; simp
  have HRL := Lib.hid hrl; have HRK := Lib.hid hrk; have HL := Lib.hid hL; have HK := Lib.hid hK
  clear hrl hrk hs hL hK
  have H_l_0 := Lib.hid h0; have H_k_0 := Lib.hid h1
  clear h0 h1
  go_enter Try.func4, Try.ntmps4
  have B0 := Lib.hid (Below.refl w.heap.size w)
  have z0 : w.heap.size ≤ w.heap.size := Nat.le_refl _
  go_wp2_with fail
  refine (shown_true _).mono ?_; rintro e w1 ⟨rfl, hb⟩
  have B1 := Lib.hid (B0.out.step hb z0)
  have z1 := B1.out.size
  have H_l_1 := Lib.hid (H_l_0.out.grown hb (Nat.le_refl _))
  have H_k_1 := Lib.hid (H_k_0.out.grown hb (Nat.le_refl _))
  clear hb B0 z0 H_l_0 H_k_0
  go_wp2_with fail
  refine (few_yes v0 l _ H_l_1.out hzl hfl).mono ?_; rintro e w2 ⟨rfl, hb⟩
  have B2 := Lib.hid (B1.out.step hb z1)
  have z2 := B2.out.size
  have H_l_2 := Lib.hid (H_l_1.out.grown hb (Nat.le_refl _))
  have H_k_2 := Lib.hid (H_k_1.out.grown hb (Nat.le_refl _))
  clear hb B1 z1 H_l_1 H_k_1
  go_wp2_with fail
  refine (few_yes v1 k _ H_k_2.out hzk hfk).mono ?_; rintro e w3 ⟨rfl, hb⟩
  have B3 := Lib.hid (B2.out.step hb z2)
  have z3 := B3.out.size
  have H_l_3 := Lib.hid (H_l_2.out.grown hb (Nat.le_refl _))
  have H_k_3 := Lib.hid (H_k_2.out.grown hb (Nat.le_refl _))
  clear hb B2 z2 H_l_2 H_k_2
  go_wp2_with fail
  refine (right_yes v0 l _ H_l_3.out HRL.out).mono ?_; rintro e w4 ⟨rfl, hb⟩
  have B4 := Lib.hid (B3.out.step hb z3)
  have z4 := B4.out.size
  have H_l_4 := Lib.hid (H_l_3.out.grown hb (Nat.le_refl _))
  have H_k_4 := Lib.hid (H_k_3.out.grown hb (Nat.le_refl _))
  clear hb B3 z3 H_l_3 H_k_3
  go_wp2_with fail
  refine (right_yes v1 k _ H_k_4.out HRK.out).mono ?_; rintro e w5 ⟨rfl, hb⟩
  have B5 := Lib.hid (B4.out.step hb z4)
  have z5 := B5.out.size
  have H_l_5 := Lib.hid (H_l_4.out.grown hb (Nat.le_refl _))
  have H_k_5 := Lib.hid (H_k_4.out.grown hb (Nat.le_refl _))
  clear hb B4 z4 H_l_4 H_k_4
  go_wp2_with fail
  refine (put_any v0 l name v _ H_l_5.out HRL.out (by omega)).mono ?_; rintro e w6 ⟨p, rfl, hnew, hb⟩
  have B6 := Lib.hid (B5.out.step hb z5)
  have z6 := B6.out.size
  have H_l_6 := Lib.hid (H_l_5.out.grown hb (Nat.le_refl _))
  have H_k_6 := Lib.hid (H_k_5.out.grown hb (Nat.le_refl _))
  have H_p_6 := Lib.hid hnew
  clear hb B5 z5 hnew H_l_5 H_k_5
  go_wp2_with fail
  refine (drop_any v0 l name _ H_l_6.out HRL.out (by omega)).mono ?_; rintro e w7 ⟨d, rfl, hnew, hb⟩
  have B7 := Lib.hid (B6.out.step hb z6)
  have z7 := B7.out.size
  have H_l_7 := Lib.hid (H_l_6.out.grown hb (Nat.le_refl _))
  have H_k_7 := Lib.hid (H_k_6.out.grown hb (Nat.le_refl _))
  have H_p_7 := Lib.hid (H_p_6.out.grown hb (Nat.le_refl _))
  have H_d_7 := Lib.hid hnew
  clear hb B6 z6 hnew H_l_6 H_k_6 H_p_6
  go_wp2_with fail
  refine (over_any v0 v1 l k _ H_l_7.out H_k_7.out (by omega)).mono ?_; rintro e w8 ⟨o, rfl, hnew, hb⟩
  have B8 := Lib.hid (B7.out.step hb z7)
  have z8 := B8.out.size
  have H_l_8 := Lib.hid (H_l_7.out.grown hb (Nat.le_refl _))
  have H_k_8 := Lib.hid (H_k_7.out.grown hb (Nat.le_refl _))
  have H_p_8 := Lib.hid (H_p_7.out.grown hb (Nat.le_refl _))
  have H_d_8 := Lib.hid (H_d_7.out.grown hb (Nat.le_refl _))
  have H_o_8 := Lib.hid hnew
  clear hb B7 z7 hnew H_l_7 H_k_7 H_p_7 H_d_7
  go_wp2_with fail
  refine (get_some H_p_8.out HP.out).mono ?_; rintro e w9 ⟨rfl, hb⟩
  have B9 := Lib.hid (B8.out.step hb z8)
  have z9 := B9.out.size
  have H_l_9 := Lib.hid (H_l_8.out.grown hb (Nat.le_refl _))
  have H_k_9 := Lib.hid (H_k_8.out.grown hb (Nat.le_refl _))
  have H_p_9 := Lib.hid (H_p_8.out.grown hb (Nat.le_refl _))
  have H_d_9 := Lib.hid (H_d_8.out.grown hb (Nat.le_refl _))
  have H_o_9 := Lib.hid (H_o_8.out.grown hb (Nat.le_refl _))
  clear hb B8 z8 H_l_8 H_k_8 H_p_8 H_d_8 H_o_8
  go_wp2_with fail
  refine (get_nothing H_d_9.out HD.out).mono ?_; rintro e w10 ⟨rfl, hb⟩
  have B10 := Lib.hid (B9.out.step hb z9)
  have z10 := B10.out.size
  have H_l_10 := Lib.hid (H_l_9.out.grown hb (Nat.le_refl _))
  have H_k_10 := Lib.hid (H_k_9.out.grown hb (Nat.le_refl _))
  have H_p_10 := Lib.hid (H_p_9.out.grown hb (Nat.le_refl _))
  have H_d_10 := Lib.hid (H_d_9.out.grown hb (Nat.le_refl _))
  have H_o_10 := Lib.hid (H_o_9.out.grown hb (Nat.le_refl _))
  clear hb B9 z9 H_l_9 H_k_9 H_p_9 H_d_9 H_o_9
  go_wp2_with fail
  refine (right_yes p (put l name v) _ H_p_10.out HR1.out).mono ?_; rintro e w11 ⟨rfl, hb⟩
  have B11 := Lib.hid (B10.out.step hb z10)
  have z11 := B11.out.size
  have H_l_11 := Lib.hid (H_l_10.out.grown hb (Nat.le_refl _))
  have H_k_11 := Lib.hid (H_k_10.out.grown hb (Nat.le_refl _))
  have H_p_11 := Lib.hid (H_p_10.out.grown hb (Nat.le_refl _))
  have H_d_11 := Lib.hid (H_d_10.out.grown hb (Nat.le_refl _))
  have H_o_11 := Lib.hid (H_o_10.out.grown hb (Nat.le_refl _))
  clear hb B10 z10 H_l_10 H_k_10 H_p_10 H_d_10 H_o_10
  go_wp2_with fail
  refine (right_yes d (drop l name) _ H_d_11.out HR2.out).mono ?_; rintro e w12 ⟨rfl, hb⟩
  have B12 := Lib.hid (B11.out.step hb z11)
  have z12 := B12.out.size
  have H_l_12 := Lib.hid (H_l_11.out.grown hb (Nat.le_refl _))
  have H_k_12 := Lib.hid (H_k_11.out.grown hb (Nat.le_refl _))
  have H_p_12 := Lib.hid (H_p_11.out.grown hb (Nat.le_refl _))
  have H_d_12 := Lib.hid (H_d_11.out.grown hb (Nat.le_refl _))
  have H_o_12 := Lib.hid (H_o_11.out.grown hb (Nat.le_refl _))
  clear hb B11 z11 H_l_11 H_k_11 H_p_11 H_d_11 H_o_11
  go_wp2_with fail
  refine (right_yes o (merge l k) _ H_o_12.out HR3.out).mono ?_; rintro e w13 ⟨rfl, hb⟩
  have B13 := Lib.hid (B12.out.step hb z12)
  have z13 := B13.out.size
  have H_l_13 := Lib.hid (H_l_12.out.grown hb (Nat.le_refl _))
  have H_k_13 := Lib.hid (H_k_12.out.grown hb (Nat.le_refl _))
  have H_p_13 := Lib.hid (H_p_12.out.grown hb (Nat.le_refl _))
  have H_d_13 := Lib.hid (H_d_12.out.grown hb (Nat.le_refl _))
  have H_o_13 := Lib.hid (H_o_12.out.grown hb (Nat.le_refl _))
  clear hb B12 z12 H_l_12 H_k_12 H_p_12 H_d_12 H_o_12
  go_wp2_with fail
  refine (get_nothing H_l_13.out HL.out).mono ?_; rintro e w14 ⟨rfl, hb⟩
  have B14 := Lib.hid (B13.out.step hb z13)
  have z14 := B14.out.size
  have H_l_14 := Lib.hid (H_l_13.out.grown hb (Nat.le_refl _))
  have H_k_14 := Lib.hid (H_k_13.out.grown hb (Nat.le_refl _))
  have H_p_14 := Lib.hid (H_p_13.out.grown hb (Nat.le_refl _))
  have H_d_14 := Lib.hid (H_d_13.out.grown hb (Nat.le_refl _))
  have H_o_14 := Lib.hid (H_o_13.out.grown hb (Nat.le_refl _))
  clear hb B13 z13 H_l_13 H_k_13 H_p_13 H_d_13 H_o_13
  go_wp2_with fail
  refine (get_some H_p_14.out HP2.out).mono ?_; rintro e w15 ⟨rfl, hb⟩
  have B15 := Lib.hid (B14.out.step hb z14)
  have z15 := B15.out.size
  have H_l_15 := Lib.hid (H_l_14.out.grown hb (Nat.le_refl _))
  have H_k_15 := Lib.hid (H_k_14.out.grown hb (Nat.le_refl _))
  have H_p_15 := Lib.hid (H_p_14.out.grown hb (Nat.le_refl _))
  have H_d_15 := Lib.hid (H_d_14.out.grown hb (Nat.le_refl _))
  have H_o_15 := Lib.hid (H_o_14.out.grown hb (Nat.le_refl _))
  clear hb B14 z14 H_l_14 H_k_14 H_p_14 H_d_14 H_o_14
  go_wp2_with fail
  refine (get_nothing H_d_15.out HD2.out).mono ?_; rintro e w16 ⟨rfl, hb⟩
  have B16 := Lib.hid (B15.out.step hb z15)
  have z16 := B16.out.size
  have H_l_16 := Lib.hid (H_l_15.out.grown hb (Nat.le_refl _))
  have H_k_16 := Lib.hid (H_k_15.out.grown hb (Nat.le_refl _))
  have H_p_16 := Lib.hid (H_p_15.out.grown hb (Nat.le_refl _))
  have H_d_16 := Lib.hid (H_d_15.out.grown hb (Nat.le_refl _))
  have H_o_16 := Lib.hid (H_o_15.out.grown hb (Nat.le_refl _))
  clear hb B15 z15 H_l_15 H_k_15 H_p_15 H_d_15 H_o_15
  go_wp2_with fail
  refine (get_nothing H_o_16.out HO2.out).mono ?_; rintro e w17 ⟨rfl, hb⟩
  have B17 := Lib.hid (B16.out.step hb z16)
  have z17 := B17.out.size
  have H_l_17 := Lib.hid (H_l_16.out.grown hb (Nat.le_refl _))
  have H_k_17 := Lib.hid (H_k_16.out.grown hb (Nat.le_refl _))
  have H_p_17 := Lib.hid (H_p_16.out.grown hb (Nat.le_refl _))
  have H_d_17 := Lib.hid (H_d_16.out.grown hb (Nat.le_refl _))
  have H_o_17 := Lib.hid (H_o_16.out.grown hb (Nat.le_refl _))
  clear hb B16 z16 H_l_16 H_k_16 H_p_16 H_d_16 H_o_16
  go_wp2_with fail
  refine (get_nothing H_k_17.out HK.out).mono ?_; rintro e w18 ⟨rfl, hb⟩
  have B18 := Lib.hid (B17.out.step hb z17)
  have z18 := B18.out.size
  have H_l_18 := Lib.hid (H_l_17.out.grown hb (Nat.le_refl _))
  have H_k_18 := Lib.hid (H_k_17.out.grown hb (Nat.le_refl _))
  have H_p_18 := Lib.hid (H_p_17.out.grown hb (Nat.le_refl _))
  have H_d_18 := Lib.hid (H_d_17.out.grown hb (Nat.le_refl _))
  have H_o_18 := Lib.hid (H_o_17.out.grown hb (Nat.le_refl _))
  clear hb B17 z17 H_l_17 H_k_17 H_p_17 H_d_17 H_o_17
  go_wp2_with fail
  go_ret
  exact ⟨rfl, B18.out⟩

set_option maxRecDepth 100000 in
set_option maxHeartbeats 4000000 in
theorem back_all101 (v0 v1 : Value) (l k : Pairs) (name other v : ByteArray) (w : World) (h0 : Holds w v0 l) (h1 : Holds w v1 k) (y : ByteArray) (hzl : Small l) (hzk : Small k) (hfl : weight l < 3000) (hfk : weight k < 3000) (hrl : Rise l) (hrk : Rise k) (hs : name = other) (hL : get l other = none) (hK : get k other = some y) :
    Calls Try.prog 4 #[v0, v1, .string name, .string other, .string v] w fun e w' => e = .returned (.bool true) ∧ Below w.heap.size w w' := by
  have la := weight_len l; have lk := weight_len k; have p1 := put_length l name v; have m1 := merge_length l k
  have d1 : (drop l name).length ≤ l.length := List.length_filter_le _ _
  have HR1 := Lib.hid (put_rise hrl name v); have HR2 := Lib.hid (drop_rise hrl name); have HR3 := Lib.hid (merge_rise hrl hrk)
  have HP := Lib.hid (show get (put l name v) name = some v by rw [get_put hrl, if_pos rfl])
  have HD := Lib.hid (show get (drop l name) name = none by rw [get_drop, if_pos rfl])
  have HP2 := Lib.hid (show get (put l name v) other = some v by rw [get_put hrl, if_pos hs])
  have HD2 := Lib.hid (show get (drop l name) other = none by rw [get_drop, if_pos hs])
  have HO2 := Lib.hid (show get (merge l k) other = some y by rw [get_merge hrl hrk, hK, hL]; rfl)
  have he : (other.toList == name.toList) = true := by rw [hs]; simp
  have HRL := Lib.hid hrl; have HRK := Lib.hid hrk; have HL := Lib.hid hL; have HK := Lib.hid hK
  clear hrl hrk hs hL hK
  have H_l_0 := Lib.hid h0; have H_k_0 := Lib.hid h1
  clear h0 h1
  go_enter Try.func4, Try.ntmps4
  have B0 := Lib.hid (Below.refl w.heap.size w)
  have z0 : w.heap.size ≤ w.heap.size := Nat.le_refl _
  go_wp2_with fail
  refine (shown_true _).mono ?_; rintro e w1 ⟨rfl, hb⟩
  have B1 := Lib.hid (B0.out.step hb z0)
  have z1 := B1.out.size
  have H_l_1 := Lib.hid (H_l_0.out.grown hb (Nat.le_refl _))
  have H_k_1 := Lib.hid (H_k_0.out.grown hb (Nat.le_refl _))
  clear hb B0 z0 H_l_0 H_k_0
  go_wp2_with fail
  refine (few_yes v0 l _ H_l_1.out hzl hfl).mono ?_; rintro e w2 ⟨rfl, hb⟩
  have B2 := Lib.hid (B1.out.step hb z1)
  have z2 := B2.out.size
  have H_l_2 := Lib.hid (H_l_1.out.grown hb (Nat.le_refl _))
  have H_k_2 := Lib.hid (H_k_1.out.grown hb (Nat.le_refl _))
  clear hb B1 z1 H_l_1 H_k_1
  go_wp2_with fail
  refine (few_yes v1 k _ H_k_2.out hzk hfk).mono ?_; rintro e w3 ⟨rfl, hb⟩
  have B3 := Lib.hid (B2.out.step hb z2)
  have z3 := B3.out.size
  have H_l_3 := Lib.hid (H_l_2.out.grown hb (Nat.le_refl _))
  have H_k_3 := Lib.hid (H_k_2.out.grown hb (Nat.le_refl _))
  clear hb B2 z2 H_l_2 H_k_2
  go_wp2_with fail
  refine (right_yes v0 l _ H_l_3.out HRL.out).mono ?_; rintro e w4 ⟨rfl, hb⟩
  have B4 := Lib.hid (B3.out.step hb z3)
  have z4 := B4.out.size
  have H_l_4 := Lib.hid (H_l_3.out.grown hb (Nat.le_refl _))
  have H_k_4 := Lib.hid (H_k_3.out.grown hb (Nat.le_refl _))
  clear hb B3 z3 H_l_3 H_k_3
  go_wp2_with fail
  refine (right_yes v1 k _ H_k_4.out HRK.out).mono ?_; rintro e w5 ⟨rfl, hb⟩
  have B5 := Lib.hid (B4.out.step hb z4)
  have z5 := B5.out.size
  have H_l_5 := Lib.hid (H_l_4.out.grown hb (Nat.le_refl _))
  have H_k_5 := Lib.hid (H_k_4.out.grown hb (Nat.le_refl _))
  clear hb B4 z4 H_l_4 H_k_4
  go_wp2_with fail
  refine (put_any v0 l name v _ H_l_5.out HRL.out (by omega)).mono ?_; rintro e w6 ⟨p, rfl, hnew, hb⟩
  have B6 := Lib.hid (B5.out.step hb z5)
  have z6 := B6.out.size
  have H_l_6 := Lib.hid (H_l_5.out.grown hb (Nat.le_refl _))
  have H_k_6 := Lib.hid (H_k_5.out.grown hb (Nat.le_refl _))
  have H_p_6 := Lib.hid hnew
  clear hb B5 z5 hnew H_l_5 H_k_5
  go_wp2_with fail
  refine (drop_any v0 l name _ H_l_6.out HRL.out (by omega)).mono ?_; rintro e w7 ⟨d, rfl, hnew, hb⟩
  have B7 := Lib.hid (B6.out.step hb z6)
  have z7 := B7.out.size
  have H_l_7 := Lib.hid (H_l_6.out.grown hb (Nat.le_refl _))
  have H_k_7 := Lib.hid (H_k_6.out.grown hb (Nat.le_refl _))
  have H_p_7 := Lib.hid (H_p_6.out.grown hb (Nat.le_refl _))
  have H_d_7 := Lib.hid hnew
  clear hb B6 z6 hnew H_l_6 H_k_6 H_p_6
  go_wp2_with fail
  refine (over_any v0 v1 l k _ H_l_7.out H_k_7.out (by omega)).mono ?_; rintro e w8 ⟨o, rfl, hnew, hb⟩
  have B8 := Lib.hid (B7.out.step hb z7)
  have z8 := B8.out.size
  have H_l_8 := Lib.hid (H_l_7.out.grown hb (Nat.le_refl _))
  have H_k_8 := Lib.hid (H_k_7.out.grown hb (Nat.le_refl _))
  have H_p_8 := Lib.hid (H_p_7.out.grown hb (Nat.le_refl _))
  have H_d_8 := Lib.hid (H_d_7.out.grown hb (Nat.le_refl _))
  have H_o_8 := Lib.hid hnew
  clear hb B7 z7 hnew H_l_7 H_k_7 H_p_7 H_d_7
  go_wp2_with fail
  refine (get_some H_p_8.out HP.out).mono ?_; rintro e w9 ⟨rfl, hb⟩
  have B9 := Lib.hid (B8.out.step hb z8)
  have z9 := B9.out.size
  have H_l_9 := Lib.hid (H_l_8.out.grown hb (Nat.le_refl _))
  have H_k_9 := Lib.hid (H_k_8.out.grown hb (Nat.le_refl _))
  have H_p_9 := Lib.hid (H_p_8.out.grown hb (Nat.le_refl _))
  have H_d_9 := Lib.hid (H_d_8.out.grown hb (Nat.le_refl _))
  have H_o_9 := Lib.hid (H_o_8.out.grown hb (Nat.le_refl _))
  clear hb B8 z8 H_l_8 H_k_8 H_p_8 H_d_8 H_o_8
  go_wp2_with fail
  refine (get_nothing H_d_9.out HD.out).mono ?_; rintro e w10 ⟨rfl, hb⟩
  have B10 := Lib.hid (B9.out.step hb z9)
  have z10 := B10.out.size
  have H_l_10 := Lib.hid (H_l_9.out.grown hb (Nat.le_refl _))
  have H_k_10 := Lib.hid (H_k_9.out.grown hb (Nat.le_refl _))
  have H_p_10 := Lib.hid (H_p_9.out.grown hb (Nat.le_refl _))
  have H_d_10 := Lib.hid (H_d_9.out.grown hb (Nat.le_refl _))
  have H_o_10 := Lib.hid (H_o_9.out.grown hb (Nat.le_refl _))
  clear hb B9 z9 H_l_9 H_k_9 H_p_9 H_d_9 H_o_9
  go_wp2_with fail
  refine (right_yes p (put l name v) _ H_p_10.out HR1.out).mono ?_; rintro e w11 ⟨rfl, hb⟩
  have B11 := Lib.hid (B10.out.step hb z10)
  have z11 := B11.out.size
  have H_l_11 := Lib.hid (H_l_10.out.grown hb (Nat.le_refl _))
  have H_k_11 := Lib.hid (H_k_10.out.grown hb (Nat.le_refl _))
  have H_p_11 := Lib.hid (H_p_10.out.grown hb (Nat.le_refl _))
  have H_d_11 := Lib.hid (H_d_10.out.grown hb (Nat.le_refl _))
  have H_o_11 := Lib.hid (H_o_10.out.grown hb (Nat.le_refl _))
  clear hb B10 z10 H_l_10 H_k_10 H_p_10 H_d_10 H_o_10
  go_wp2_with fail
  refine (right_yes d (drop l name) _ H_d_11.out HR2.out).mono ?_; rintro e w12 ⟨rfl, hb⟩
  have B12 := Lib.hid (B11.out.step hb z11)
  have z12 := B12.out.size
  have H_l_12 := Lib.hid (H_l_11.out.grown hb (Nat.le_refl _))
  have H_k_12 := Lib.hid (H_k_11.out.grown hb (Nat.le_refl _))
  have H_p_12 := Lib.hid (H_p_11.out.grown hb (Nat.le_refl _))
  have H_d_12 := Lib.hid (H_d_11.out.grown hb (Nat.le_refl _))
  have H_o_12 := Lib.hid (H_o_11.out.grown hb (Nat.le_refl _))
  clear hb B11 z11 H_l_11 H_k_11 H_p_11 H_d_11 H_o_11
  go_wp2_with fail
  refine (right_yes o (merge l k) _ H_o_12.out HR3.out).mono ?_; rintro e w13 ⟨rfl, hb⟩
  have B13 := Lib.hid (B12.out.step hb z12)
  have z13 := B13.out.size
  have H_l_13 := Lib.hid (H_l_12.out.grown hb (Nat.le_refl _))
  have H_k_13 := Lib.hid (H_k_12.out.grown hb (Nat.le_refl _))
  have H_p_13 := Lib.hid (H_p_12.out.grown hb (Nat.le_refl _))
  have H_d_13 := Lib.hid (H_d_12.out.grown hb (Nat.le_refl _))
  have H_o_13 := Lib.hid (H_o_12.out.grown hb (Nat.le_refl _))
  clear hb B12 z12 H_l_12 H_k_12 H_p_12 H_d_12 H_o_12
  go_wp2_with fail
  refine (get_nothing H_l_13.out HL.out).mono ?_; rintro e w14 ⟨rfl, hb⟩
  have B14 := Lib.hid (B13.out.step hb z13)
  have z14 := B14.out.size
  have H_l_14 := Lib.hid (H_l_13.out.grown hb (Nat.le_refl _))
  have H_k_14 := Lib.hid (H_k_13.out.grown hb (Nat.le_refl _))
  have H_p_14 := Lib.hid (H_p_13.out.grown hb (Nat.le_refl _))
  have H_d_14 := Lib.hid (H_d_13.out.grown hb (Nat.le_refl _))
  have H_o_14 := Lib.hid (H_o_13.out.grown hb (Nat.le_refl _))
  clear hb B13 z13 H_l_13 H_k_13 H_p_13 H_d_13 H_o_13
  go_wp2_with fail
  refine (get_some H_p_14.out HP2.out).mono ?_; rintro e w15 ⟨rfl, hb⟩
  have B15 := Lib.hid (B14.out.step hb z14)
  have z15 := B15.out.size
  have H_l_15 := Lib.hid (H_l_14.out.grown hb (Nat.le_refl _))
  have H_k_15 := Lib.hid (H_k_14.out.grown hb (Nat.le_refl _))
  have H_p_15 := Lib.hid (H_p_14.out.grown hb (Nat.le_refl _))
  have H_d_15 := Lib.hid (H_d_14.out.grown hb (Nat.le_refl _))
  have H_o_15 := Lib.hid (H_o_14.out.grown hb (Nat.le_refl _))
  clear hb B14 z14 H_l_14 H_k_14 H_p_14 H_d_14 H_o_14
  go_wp2_with fail
  refine (get_nothing H_d_15.out HD2.out).mono ?_; rintro e w16 ⟨rfl, hb⟩
  have B16 := Lib.hid (B15.out.step hb z15)
  have z16 := B16.out.size
  have H_l_16 := Lib.hid (H_l_15.out.grown hb (Nat.le_refl _))
  have H_k_16 := Lib.hid (H_k_15.out.grown hb (Nat.le_refl _))
  have H_p_16 := Lib.hid (H_p_15.out.grown hb (Nat.le_refl _))
  have H_d_16 := Lib.hid (H_d_15.out.grown hb (Nat.le_refl _))
  have H_o_16 := Lib.hid (H_o_15.out.grown hb (Nat.le_refl _))
  clear hb B15 z15 H_l_15 H_k_15 H_p_15 H_d_15 H_o_15
  go_wp2_with fail
  refine (get_some H_o_16.out HO2.out).mono ?_; rintro e w17 ⟨rfl, hb⟩
  have B17 := Lib.hid (B16.out.step hb z16)
  have z17 := B17.out.size
  have H_l_17 := Lib.hid (H_l_16.out.grown hb (Nat.le_refl _))
  have H_k_17 := Lib.hid (H_k_16.out.grown hb (Nat.le_refl _))
  have H_p_17 := Lib.hid (H_p_16.out.grown hb (Nat.le_refl _))
  have H_d_17 := Lib.hid (H_d_16.out.grown hb (Nat.le_refl _))
  have H_o_17 := Lib.hid (H_o_16.out.grown hb (Nat.le_refl _))
  clear hb B16 z16 H_l_16 H_k_16 H_p_16 H_d_16 H_o_16
  go_wp2_with fail
  refine (get_some H_k_17.out HK.out).mono ?_; rintro e w18 ⟨rfl, hb⟩
  have B18 := Lib.hid (B17.out.step hb z17)
  have z18 := B18.out.size
  have H_l_18 := Lib.hid (H_l_17.out.grown hb (Nat.le_refl _))
  have H_k_18 := Lib.hid (H_k_17.out.grown hb (Nat.le_refl _))
  have H_p_18 := Lib.hid (H_p_17.out.grown hb (Nat.le_refl _))
  have H_d_18 := Lib.hid (H_d_17.out.grown hb (Nat.le_refl _))
  have H_o_18 := Lib.hid (H_o_17.out.grown hb (Nat.le_refl _))
  clear hb B17 z17 H_l_17 H_k_17 H_p_17 H_d_17 H_o_17
  go_wp2_with fail
  go_ret
  exact ⟨rfl, B18.out⟩

set_option maxRecDepth 100000 in
set_option maxHeartbeats 4000000 in
theorem back_all110 (v0 v1 : Value) (l k : Pairs) (name other v : ByteArray) (w : World) (h0 : Holds w v0 l) (h1 : Holds w v1 k) (x : ByteArray) (hzl : Small l) (hzk : Small k) (hfl : weight l < 3000) (hfk : weight k < 3000) (hrl : Rise l) (hrk : Rise k) (hs : name = other) (hL : get l other = some x) (hK : get k other = none) :
    Calls Try.prog 4 #[v0, v1, .string name, .string other, .string v] w fun e w' => e = .returned (.bool true) ∧ Below w.heap.size w w' := by
  have la := weight_len l; have lk := weight_len k; have p1 := put_length l name v; have m1 := merge_length l k
  have d1 : (drop l name).length ≤ l.length := List.length_filter_le _ _
  have HR1 := Lib.hid (put_rise hrl name v); have HR2 := Lib.hid (drop_rise hrl name); have HR3 := Lib.hid (merge_rise hrl hrk)
  have HP := Lib.hid (show get (put l name v) name = some v by rw [get_put hrl, if_pos rfl])
  have HD := Lib.hid (show get (drop l name) name = none by rw [get_drop, if_pos rfl])
  have HP2 := Lib.hid (show get (put l name v) other = some v by rw [get_put hrl, if_pos hs])
  have HD2 := Lib.hid (show get (drop l name) other = none by rw [get_drop, if_pos hs])
  have HO2 := Lib.hid (show get (merge l k) other = some x by rw [get_merge hrl hrk, hK, hL]; rfl)
  have he : (other.toList == name.toList) = true := by rw [hs]; simp
  have HRL := Lib.hid hrl; have HRK := Lib.hid hrk; have HL := Lib.hid hL; have HK := Lib.hid hK
  clear hrl hrk hs hL hK
  have H_l_0 := Lib.hid h0; have H_k_0 := Lib.hid h1
  clear h0 h1
  go_enter Try.func4, Try.ntmps4
  have B0 := Lib.hid (Below.refl w.heap.size w)
  have z0 : w.heap.size ≤ w.heap.size := Nat.le_refl _
  go_wp2_with fail
  refine (shown_true _).mono ?_; rintro e w1 ⟨rfl, hb⟩
  have B1 := Lib.hid (B0.out.step hb z0)
  have z1 := B1.out.size
  have H_l_1 := Lib.hid (H_l_0.out.grown hb (Nat.le_refl _))
  have H_k_1 := Lib.hid (H_k_0.out.grown hb (Nat.le_refl _))
  clear hb B0 z0 H_l_0 H_k_0
  go_wp2_with fail
  refine (few_yes v0 l _ H_l_1.out hzl hfl).mono ?_; rintro e w2 ⟨rfl, hb⟩
  have B2 := Lib.hid (B1.out.step hb z1)
  have z2 := B2.out.size
  have H_l_2 := Lib.hid (H_l_1.out.grown hb (Nat.le_refl _))
  have H_k_2 := Lib.hid (H_k_1.out.grown hb (Nat.le_refl _))
  clear hb B1 z1 H_l_1 H_k_1
  go_wp2_with fail
  refine (few_yes v1 k _ H_k_2.out hzk hfk).mono ?_; rintro e w3 ⟨rfl, hb⟩
  have B3 := Lib.hid (B2.out.step hb z2)
  have z3 := B3.out.size
  have H_l_3 := Lib.hid (H_l_2.out.grown hb (Nat.le_refl _))
  have H_k_3 := Lib.hid (H_k_2.out.grown hb (Nat.le_refl _))
  clear hb B2 z2 H_l_2 H_k_2
  go_wp2_with fail
  refine (right_yes v0 l _ H_l_3.out HRL.out).mono ?_; rintro e w4 ⟨rfl, hb⟩
  have B4 := Lib.hid (B3.out.step hb z3)
  have z4 := B4.out.size
  have H_l_4 := Lib.hid (H_l_3.out.grown hb (Nat.le_refl _))
  have H_k_4 := Lib.hid (H_k_3.out.grown hb (Nat.le_refl _))
  clear hb B3 z3 H_l_3 H_k_3
  go_wp2_with fail
  refine (right_yes v1 k _ H_k_4.out HRK.out).mono ?_; rintro e w5 ⟨rfl, hb⟩
  have B5 := Lib.hid (B4.out.step hb z4)
  have z5 := B5.out.size
  have H_l_5 := Lib.hid (H_l_4.out.grown hb (Nat.le_refl _))
  have H_k_5 := Lib.hid (H_k_4.out.grown hb (Nat.le_refl _))
  clear hb B4 z4 H_l_4 H_k_4
  go_wp2_with fail
  refine (put_any v0 l name v _ H_l_5.out HRL.out (by omega)).mono ?_; rintro e w6 ⟨p, rfl, hnew, hb⟩
  have B6 := Lib.hid (B5.out.step hb z5)
  have z6 := B6.out.size
  have H_l_6 := Lib.hid (H_l_5.out.grown hb (Nat.le_refl _))
  have H_k_6 := Lib.hid (H_k_5.out.grown hb (Nat.le_refl _))
  have H_p_6 := Lib.hid hnew
  clear hb B5 z5 hnew H_l_5 H_k_5
  go_wp2_with fail
  refine (drop_any v0 l name _ H_l_6.out HRL.out (by omega)).mono ?_; rintro e w7 ⟨d, rfl, hnew, hb⟩
  have B7 := Lib.hid (B6.out.step hb z6)
  have z7 := B7.out.size
  have H_l_7 := Lib.hid (H_l_6.out.grown hb (Nat.le_refl _))
  have H_k_7 := Lib.hid (H_k_6.out.grown hb (Nat.le_refl _))
  have H_p_7 := Lib.hid (H_p_6.out.grown hb (Nat.le_refl _))
  have H_d_7 := Lib.hid hnew
  clear hb B6 z6 hnew H_l_6 H_k_6 H_p_6
  go_wp2_with fail
  refine (over_any v0 v1 l k _ H_l_7.out H_k_7.out (by omega)).mono ?_; rintro e w8 ⟨o, rfl, hnew, hb⟩
  have B8 := Lib.hid (B7.out.step hb z7)
  have z8 := B8.out.size
  have H_l_8 := Lib.hid (H_l_7.out.grown hb (Nat.le_refl _))
  have H_k_8 := Lib.hid (H_k_7.out.grown hb (Nat.le_refl _))
  have H_p_8 := Lib.hid (H_p_7.out.grown hb (Nat.le_refl _))
  have H_d_8 := Lib.hid (H_d_7.out.grown hb (Nat.le_refl _))
  have H_o_8 := Lib.hid hnew
  clear hb B7 z7 hnew H_l_7 H_k_7 H_p_7 H_d_7
  go_wp2_with fail
  refine (get_some H_p_8.out HP.out).mono ?_; rintro e w9 ⟨rfl, hb⟩
  have B9 := Lib.hid (B8.out.step hb z8)
  have z9 := B9.out.size
  have H_l_9 := Lib.hid (H_l_8.out.grown hb (Nat.le_refl _))
  have H_k_9 := Lib.hid (H_k_8.out.grown hb (Nat.le_refl _))
  have H_p_9 := Lib.hid (H_p_8.out.grown hb (Nat.le_refl _))
  have H_d_9 := Lib.hid (H_d_8.out.grown hb (Nat.le_refl _))
  have H_o_9 := Lib.hid (H_o_8.out.grown hb (Nat.le_refl _))
  clear hb B8 z8 H_l_8 H_k_8 H_p_8 H_d_8 H_o_8
  go_wp2_with fail
  refine (get_nothing H_d_9.out HD.out).mono ?_; rintro e w10 ⟨rfl, hb⟩
  have B10 := Lib.hid (B9.out.step hb z9)
  have z10 := B10.out.size
  have H_l_10 := Lib.hid (H_l_9.out.grown hb (Nat.le_refl _))
  have H_k_10 := Lib.hid (H_k_9.out.grown hb (Nat.le_refl _))
  have H_p_10 := Lib.hid (H_p_9.out.grown hb (Nat.le_refl _))
  have H_d_10 := Lib.hid (H_d_9.out.grown hb (Nat.le_refl _))
  have H_o_10 := Lib.hid (H_o_9.out.grown hb (Nat.le_refl _))
  clear hb B9 z9 H_l_9 H_k_9 H_p_9 H_d_9 H_o_9
  go_wp2_with fail
  refine (right_yes p (put l name v) _ H_p_10.out HR1.out).mono ?_; rintro e w11 ⟨rfl, hb⟩
  have B11 := Lib.hid (B10.out.step hb z10)
  have z11 := B11.out.size
  have H_l_11 := Lib.hid (H_l_10.out.grown hb (Nat.le_refl _))
  have H_k_11 := Lib.hid (H_k_10.out.grown hb (Nat.le_refl _))
  have H_p_11 := Lib.hid (H_p_10.out.grown hb (Nat.le_refl _))
  have H_d_11 := Lib.hid (H_d_10.out.grown hb (Nat.le_refl _))
  have H_o_11 := Lib.hid (H_o_10.out.grown hb (Nat.le_refl _))
  clear hb B10 z10 H_l_10 H_k_10 H_p_10 H_d_10 H_o_10
  go_wp2_with fail
  refine (right_yes d (drop l name) _ H_d_11.out HR2.out).mono ?_; rintro e w12 ⟨rfl, hb⟩
  have B12 := Lib.hid (B11.out.step hb z11)
  have z12 := B12.out.size
  have H_l_12 := Lib.hid (H_l_11.out.grown hb (Nat.le_refl _))
  have H_k_12 := Lib.hid (H_k_11.out.grown hb (Nat.le_refl _))
  have H_p_12 := Lib.hid (H_p_11.out.grown hb (Nat.le_refl _))
  have H_d_12 := Lib.hid (H_d_11.out.grown hb (Nat.le_refl _))
  have H_o_12 := Lib.hid (H_o_11.out.grown hb (Nat.le_refl _))
  clear hb B11 z11 H_l_11 H_k_11 H_p_11 H_d_11 H_o_11
  go_wp2_with fail
  refine (right_yes o (merge l k) _ H_o_12.out HR3.out).mono ?_; rintro e w13 ⟨rfl, hb⟩
  have B13 := Lib.hid (B12.out.step hb z12)
  have z13 := B13.out.size
  have H_l_13 := Lib.hid (H_l_12.out.grown hb (Nat.le_refl _))
  have H_k_13 := Lib.hid (H_k_12.out.grown hb (Nat.le_refl _))
  have H_p_13 := Lib.hid (H_p_12.out.grown hb (Nat.le_refl _))
  have H_d_13 := Lib.hid (H_d_12.out.grown hb (Nat.le_refl _))
  have H_o_13 := Lib.hid (H_o_12.out.grown hb (Nat.le_refl _))
  clear hb B12 z12 H_l_12 H_k_12 H_p_12 H_d_12 H_o_12
  go_wp2_with fail
  refine (get_some H_l_13.out HL.out).mono ?_; rintro e w14 ⟨rfl, hb⟩
  have B14 := Lib.hid (B13.out.step hb z13)
  have z14 := B14.out.size
  have H_l_14 := Lib.hid (H_l_13.out.grown hb (Nat.le_refl _))
  have H_k_14 := Lib.hid (H_k_13.out.grown hb (Nat.le_refl _))
  have H_p_14 := Lib.hid (H_p_13.out.grown hb (Nat.le_refl _))
  have H_d_14 := Lib.hid (H_d_13.out.grown hb (Nat.le_refl _))
  have H_o_14 := Lib.hid (H_o_13.out.grown hb (Nat.le_refl _))
  clear hb B13 z13 H_l_13 H_k_13 H_p_13 H_d_13 H_o_13
  go_wp2_with fail
  refine (get_some H_p_14.out HP2.out).mono ?_; rintro e w15 ⟨rfl, hb⟩
  have B15 := Lib.hid (B14.out.step hb z14)
  have z15 := B15.out.size
  have H_l_15 := Lib.hid (H_l_14.out.grown hb (Nat.le_refl _))
  have H_k_15 := Lib.hid (H_k_14.out.grown hb (Nat.le_refl _))
  have H_p_15 := Lib.hid (H_p_14.out.grown hb (Nat.le_refl _))
  have H_d_15 := Lib.hid (H_d_14.out.grown hb (Nat.le_refl _))
  have H_o_15 := Lib.hid (H_o_14.out.grown hb (Nat.le_refl _))
  clear hb B14 z14 H_l_14 H_k_14 H_p_14 H_d_14 H_o_14
  go_wp2_with fail
  refine (get_nothing H_d_15.out HD2.out).mono ?_; rintro e w16 ⟨rfl, hb⟩
  have B16 := Lib.hid (B15.out.step hb z15)
  have z16 := B16.out.size
  have H_l_16 := Lib.hid (H_l_15.out.grown hb (Nat.le_refl _))
  have H_k_16 := Lib.hid (H_k_15.out.grown hb (Nat.le_refl _))
  have H_p_16 := Lib.hid (H_p_15.out.grown hb (Nat.le_refl _))
  have H_d_16 := Lib.hid (H_d_15.out.grown hb (Nat.le_refl _))
  have H_o_16 := Lib.hid (H_o_15.out.grown hb (Nat.le_refl _))
  clear hb B15 z15 H_l_15 H_k_15 H_p_15 H_d_15 H_o_15
  go_wp2_with fail
  refine (get_some H_o_16.out HO2.out).mono ?_; rintro e w17 ⟨rfl, hb⟩
  have B17 := Lib.hid (B16.out.step hb z16)
  have z17 := B17.out.size
  have H_l_17 := Lib.hid (H_l_16.out.grown hb (Nat.le_refl _))
  have H_k_17 := Lib.hid (H_k_16.out.grown hb (Nat.le_refl _))
  have H_p_17 := Lib.hid (H_p_16.out.grown hb (Nat.le_refl _))
  have H_d_17 := Lib.hid (H_d_16.out.grown hb (Nat.le_refl _))
  have H_o_17 := Lib.hid (H_o_16.out.grown hb (Nat.le_refl _))
  clear hb B16 z16 H_l_16 H_k_16 H_p_16 H_d_16 H_o_16
  go_wp2_with fail
  refine (get_nothing H_k_17.out HK.out).mono ?_; rintro e w18 ⟨rfl, hb⟩
  have B18 := Lib.hid (B17.out.step hb z17)
  have z18 := B18.out.size
  have H_l_18 := Lib.hid (H_l_17.out.grown hb (Nat.le_refl _))
  have H_k_18 := Lib.hid (H_k_17.out.grown hb (Nat.le_refl _))
  have H_p_18 := Lib.hid (H_p_17.out.grown hb (Nat.le_refl _))
  have H_d_18 := Lib.hid (H_d_17.out.grown hb (Nat.le_refl _))
  have H_o_18 := Lib.hid (H_o_17.out.grown hb (Nat.le_refl _))
  clear hb B17 z17 H_l_17 H_k_17 H_p_17 H_d_17 H_o_17
  go_wp2_with fail
  go_ret
  exact ⟨rfl, B18.out⟩

set_option maxRecDepth 100000 in
set_option maxHeartbeats 4000000 in
theorem back_all111 (v0 v1 : Value) (l k : Pairs) (name other v : ByteArray) (w : World) (h0 : Holds w v0 l) (h1 : Holds w v1 k) (x : ByteArray) (y : ByteArray) (hzl : Small l) (hzk : Small k) (hfl : weight l < 3000) (hfk : weight k < 3000) (hrl : Rise l) (hrk : Rise k) (hs : name = other) (hL : get l other = some x) (hK : get k other = some y) :
    Calls Try.prog 4 #[v0, v1, .string name, .string other, .string v] w fun e w' => e = .returned (.bool true) ∧ Below w.heap.size w w' := by
  have la := weight_len l; have lk := weight_len k; have p1 := put_length l name v; have m1 := merge_length l k
  have d1 : (drop l name).length ≤ l.length := List.length_filter_le _ _
  have HR1 := Lib.hid (put_rise hrl name v); have HR2 := Lib.hid (drop_rise hrl name); have HR3 := Lib.hid (merge_rise hrl hrk)
  have HP := Lib.hid (show get (put l name v) name = some v by rw [get_put hrl, if_pos rfl])
  have HD := Lib.hid (show get (drop l name) name = none by rw [get_drop, if_pos rfl])
  have HP2 := Lib.hid (show get (put l name v) other = some v by rw [get_put hrl, if_pos hs])
  have HD2 := Lib.hid (show get (drop l name) other = none by rw [get_drop, if_pos hs])
  have HO2 := Lib.hid (show get (merge l k) other = some y by rw [get_merge hrl hrk, hK, hL]; rfl)
  have he : (other.toList == name.toList) = true := by rw [hs]; simp
  have HRL := Lib.hid hrl; have HRK := Lib.hid hrk; have HL := Lib.hid hL; have HK := Lib.hid hK
  clear hrl hrk hs hL hK
  have H_l_0 := Lib.hid h0; have H_k_0 := Lib.hid h1
  clear h0 h1
  go_enter Try.func4, Try.ntmps4
  have B0 := Lib.hid (Below.refl w.heap.size w)
  have z0 : w.heap.size ≤ w.heap.size := Nat.le_refl _
  go_wp2_with fail
  refine (shown_true _).mono ?_; rintro e w1 ⟨rfl, hb⟩
  have B1 := Lib.hid (B0.out.step hb z0)
  have z1 := B1.out.size
  have H_l_1 := Lib.hid (H_l_0.out.grown hb (Nat.le_refl _))
  have H_k_1 := Lib.hid (H_k_0.out.grown hb (Nat.le_refl _))
  clear hb B0 z0 H_l_0 H_k_0
  go_wp2_with fail
  refine (few_yes v0 l _ H_l_1.out hzl hfl).mono ?_; rintro e w2 ⟨rfl, hb⟩
  have B2 := Lib.hid (B1.out.step hb z1)
  have z2 := B2.out.size
  have H_l_2 := Lib.hid (H_l_1.out.grown hb (Nat.le_refl _))
  have H_k_2 := Lib.hid (H_k_1.out.grown hb (Nat.le_refl _))
  clear hb B1 z1 H_l_1 H_k_1
  go_wp2_with fail
  refine (few_yes v1 k _ H_k_2.out hzk hfk).mono ?_; rintro e w3 ⟨rfl, hb⟩
  have B3 := Lib.hid (B2.out.step hb z2)
  have z3 := B3.out.size
  have H_l_3 := Lib.hid (H_l_2.out.grown hb (Nat.le_refl _))
  have H_k_3 := Lib.hid (H_k_2.out.grown hb (Nat.le_refl _))
  clear hb B2 z2 H_l_2 H_k_2
  go_wp2_with fail
  refine (right_yes v0 l _ H_l_3.out HRL.out).mono ?_; rintro e w4 ⟨rfl, hb⟩
  have B4 := Lib.hid (B3.out.step hb z3)
  have z4 := B4.out.size
  have H_l_4 := Lib.hid (H_l_3.out.grown hb (Nat.le_refl _))
  have H_k_4 := Lib.hid (H_k_3.out.grown hb (Nat.le_refl _))
  clear hb B3 z3 H_l_3 H_k_3
  go_wp2_with fail
  refine (right_yes v1 k _ H_k_4.out HRK.out).mono ?_; rintro e w5 ⟨rfl, hb⟩
  have B5 := Lib.hid (B4.out.step hb z4)
  have z5 := B5.out.size
  have H_l_5 := Lib.hid (H_l_4.out.grown hb (Nat.le_refl _))
  have H_k_5 := Lib.hid (H_k_4.out.grown hb (Nat.le_refl _))
  clear hb B4 z4 H_l_4 H_k_4
  go_wp2_with fail
  refine (put_any v0 l name v _ H_l_5.out HRL.out (by omega)).mono ?_; rintro e w6 ⟨p, rfl, hnew, hb⟩
  have B6 := Lib.hid (B5.out.step hb z5)
  have z6 := B6.out.size
  have H_l_6 := Lib.hid (H_l_5.out.grown hb (Nat.le_refl _))
  have H_k_6 := Lib.hid (H_k_5.out.grown hb (Nat.le_refl _))
  have H_p_6 := Lib.hid hnew
  clear hb B5 z5 hnew H_l_5 H_k_5
  go_wp2_with fail
  refine (drop_any v0 l name _ H_l_6.out HRL.out (by omega)).mono ?_; rintro e w7 ⟨d, rfl, hnew, hb⟩
  have B7 := Lib.hid (B6.out.step hb z6)
  have z7 := B7.out.size
  have H_l_7 := Lib.hid (H_l_6.out.grown hb (Nat.le_refl _))
  have H_k_7 := Lib.hid (H_k_6.out.grown hb (Nat.le_refl _))
  have H_p_7 := Lib.hid (H_p_6.out.grown hb (Nat.le_refl _))
  have H_d_7 := Lib.hid hnew
  clear hb B6 z6 hnew H_l_6 H_k_6 H_p_6
  go_wp2_with fail
  refine (over_any v0 v1 l k _ H_l_7.out H_k_7.out (by omega)).mono ?_; rintro e w8 ⟨o, rfl, hnew, hb⟩
  have B8 := Lib.hid (B7.out.step hb z7)
  have z8 := B8.out.size
  have H_l_8 := Lib.hid (H_l_7.out.grown hb (Nat.le_refl _))
  have H_k_8 := Lib.hid (H_k_7.out.grown hb (Nat.le_refl _))
  have H_p_8 := Lib.hid (H_p_7.out.grown hb (Nat.le_refl _))
  have H_d_8 := Lib.hid (H_d_7.out.grown hb (Nat.le_refl _))
  have H_o_8 := Lib.hid hnew
  clear hb B7 z7 hnew H_l_7 H_k_7 H_p_7 H_d_7
  go_wp2_with fail
  refine (get_some H_p_8.out HP.out).mono ?_; rintro e w9 ⟨rfl, hb⟩
  have B9 := Lib.hid (B8.out.step hb z8)
  have z9 := B9.out.size
  have H_l_9 := Lib.hid (H_l_8.out.grown hb (Nat.le_refl _))
  have H_k_9 := Lib.hid (H_k_8.out.grown hb (Nat.le_refl _))
  have H_p_9 := Lib.hid (H_p_8.out.grown hb (Nat.le_refl _))
  have H_d_9 := Lib.hid (H_d_8.out.grown hb (Nat.le_refl _))
  have H_o_9 := Lib.hid (H_o_8.out.grown hb (Nat.le_refl _))
  clear hb B8 z8 H_l_8 H_k_8 H_p_8 H_d_8 H_o_8
  go_wp2_with fail
  refine (get_nothing H_d_9.out HD.out).mono ?_; rintro e w10 ⟨rfl, hb⟩
  have B10 := Lib.hid (B9.out.step hb z9)
  have z10 := B10.out.size
  have H_l_10 := Lib.hid (H_l_9.out.grown hb (Nat.le_refl _))
  have H_k_10 := Lib.hid (H_k_9.out.grown hb (Nat.le_refl _))
  have H_p_10 := Lib.hid (H_p_9.out.grown hb (Nat.le_refl _))
  have H_d_10 := Lib.hid (H_d_9.out.grown hb (Nat.le_refl _))
  have H_o_10 := Lib.hid (H_o_9.out.grown hb (Nat.le_refl _))
  clear hb B9 z9 H_l_9 H_k_9 H_p_9 H_d_9 H_o_9
  go_wp2_with fail
  refine (right_yes p (put l name v) _ H_p_10.out HR1.out).mono ?_; rintro e w11 ⟨rfl, hb⟩
  have B11 := Lib.hid (B10.out.step hb z10)
  have z11 := B11.out.size
  have H_l_11 := Lib.hid (H_l_10.out.grown hb (Nat.le_refl _))
  have H_k_11 := Lib.hid (H_k_10.out.grown hb (Nat.le_refl _))
  have H_p_11 := Lib.hid (H_p_10.out.grown hb (Nat.le_refl _))
  have H_d_11 := Lib.hid (H_d_10.out.grown hb (Nat.le_refl _))
  have H_o_11 := Lib.hid (H_o_10.out.grown hb (Nat.le_refl _))
  clear hb B10 z10 H_l_10 H_k_10 H_p_10 H_d_10 H_o_10
  go_wp2_with fail
  refine (right_yes d (drop l name) _ H_d_11.out HR2.out).mono ?_; rintro e w12 ⟨rfl, hb⟩
  have B12 := Lib.hid (B11.out.step hb z11)
  have z12 := B12.out.size
  have H_l_12 := Lib.hid (H_l_11.out.grown hb (Nat.le_refl _))
  have H_k_12 := Lib.hid (H_k_11.out.grown hb (Nat.le_refl _))
  have H_p_12 := Lib.hid (H_p_11.out.grown hb (Nat.le_refl _))
  have H_d_12 := Lib.hid (H_d_11.out.grown hb (Nat.le_refl _))
  have H_o_12 := Lib.hid (H_o_11.out.grown hb (Nat.le_refl _))
  clear hb B11 z11 H_l_11 H_k_11 H_p_11 H_d_11 H_o_11
  go_wp2_with fail
  refine (right_yes o (merge l k) _ H_o_12.out HR3.out).mono ?_; rintro e w13 ⟨rfl, hb⟩
  have B13 := Lib.hid (B12.out.step hb z12)
  have z13 := B13.out.size
  have H_l_13 := Lib.hid (H_l_12.out.grown hb (Nat.le_refl _))
  have H_k_13 := Lib.hid (H_k_12.out.grown hb (Nat.le_refl _))
  have H_p_13 := Lib.hid (H_p_12.out.grown hb (Nat.le_refl _))
  have H_d_13 := Lib.hid (H_d_12.out.grown hb (Nat.le_refl _))
  have H_o_13 := Lib.hid (H_o_12.out.grown hb (Nat.le_refl _))
  clear hb B12 z12 H_l_12 H_k_12 H_p_12 H_d_12 H_o_12
  go_wp2_with fail
  refine (get_some H_l_13.out HL.out).mono ?_; rintro e w14 ⟨rfl, hb⟩
  have B14 := Lib.hid (B13.out.step hb z13)
  have z14 := B14.out.size
  have H_l_14 := Lib.hid (H_l_13.out.grown hb (Nat.le_refl _))
  have H_k_14 := Lib.hid (H_k_13.out.grown hb (Nat.le_refl _))
  have H_p_14 := Lib.hid (H_p_13.out.grown hb (Nat.le_refl _))
  have H_d_14 := Lib.hid (H_d_13.out.grown hb (Nat.le_refl _))
  have H_o_14 := Lib.hid (H_o_13.out.grown hb (Nat.le_refl _))
  clear hb B13 z13 H_l_13 H_k_13 H_p_13 H_d_13 H_o_13
  go_wp2_with fail
  refine (get_some H_p_14.out HP2.out).mono ?_; rintro e w15 ⟨rfl, hb⟩
  have B15 := Lib.hid (B14.out.step hb z14)
  have z15 := B15.out.size
  have H_l_15 := Lib.hid (H_l_14.out.grown hb (Nat.le_refl _))
  have H_k_15 := Lib.hid (H_k_14.out.grown hb (Nat.le_refl _))
  have H_p_15 := Lib.hid (H_p_14.out.grown hb (Nat.le_refl _))
  have H_d_15 := Lib.hid (H_d_14.out.grown hb (Nat.le_refl _))
  have H_o_15 := Lib.hid (H_o_14.out.grown hb (Nat.le_refl _))
  clear hb B14 z14 H_l_14 H_k_14 H_p_14 H_d_14 H_o_14
  go_wp2_with fail
  refine (get_nothing H_d_15.out HD2.out).mono ?_; rintro e w16 ⟨rfl, hb⟩
  have B16 := Lib.hid (B15.out.step hb z15)
  have z16 := B16.out.size
  have H_l_16 := Lib.hid (H_l_15.out.grown hb (Nat.le_refl _))
  have H_k_16 := Lib.hid (H_k_15.out.grown hb (Nat.le_refl _))
  have H_p_16 := Lib.hid (H_p_15.out.grown hb (Nat.le_refl _))
  have H_d_16 := Lib.hid (H_d_15.out.grown hb (Nat.le_refl _))
  have H_o_16 := Lib.hid (H_o_15.out.grown hb (Nat.le_refl _))
  clear hb B15 z15 H_l_15 H_k_15 H_p_15 H_d_15 H_o_15
  go_wp2_with fail
  refine (get_some H_o_16.out HO2.out).mono ?_; rintro e w17 ⟨rfl, hb⟩
  have B17 := Lib.hid (B16.out.step hb z16)
  have z17 := B17.out.size
  have H_l_17 := Lib.hid (H_l_16.out.grown hb (Nat.le_refl _))
  have H_k_17 := Lib.hid (H_k_16.out.grown hb (Nat.le_refl _))
  have H_p_17 := Lib.hid (H_p_16.out.grown hb (Nat.le_refl _))
  have H_d_17 := Lib.hid (H_d_16.out.grown hb (Nat.le_refl _))
  have H_o_17 := Lib.hid (H_o_16.out.grown hb (Nat.le_refl _))
  clear hb B16 z16 H_l_16 H_k_16 H_p_16 H_d_16 H_o_16
  go_wp2_with fail
  refine (get_some H_k_17.out HK.out).mono ?_; rintro e w18 ⟨rfl, hb⟩
  have B18 := Lib.hid (B17.out.step hb z17)
  have z18 := B18.out.size
  have H_l_18 := Lib.hid (H_l_17.out.grown hb (Nat.le_refl _))
  have H_k_18 := Lib.hid (H_k_17.out.grown hb (Nat.le_refl _))
  have H_p_18 := Lib.hid (H_p_17.out.grown hb (Nat.le_refl _))
  have H_d_18 := Lib.hid (H_d_17.out.grown hb (Nat.le_refl _))
  have H_o_18 := Lib.hid (H_o_17.out.grown hb (Nat.le_refl _))
  clear hb B17 z17 H_l_17 H_k_17 H_p_17 H_d_17 H_o_17
  go_wp2_with fail
  go_ret
  exact ⟨rfl, B18.out⟩

theorem back_ok (v0 v1 : Value) (l k : Pairs) (name other v : ByteArray) (w : World) (h0 : Holds w v0 l) (h1 : Holds w v1 k) (hzl : Small l) (hzk : Small k) :
    Calls Try.prog 4 #[v0, v1, .string name, .string other, .string v] w fun e w' => e = .returned (.bool true) ∧ Below w.heap.size w w' := by
  by_cases hfl : weight l < 3000
  · by_cases hfk : weight k < 3000
    · by_cases hrl : Rise l
      · by_cases hrk : Rise k
        · cases hL : get l other with
          | none =>
            cases hK : get k other with
            | none =>
              by_cases hs : name = other
              · exact back_all100 v0 v1 l k name other v w h0 h1 hzl hzk hfl hfk hrl hrk hs hL hK
              · exact back_all000 v0 v1 l k name other v w h0 h1 hzl hzk hfl hfk hrl hrk hs hL hK
            | some y =>
              by_cases hs : name = other
              · exact back_all101 v0 v1 l k name other v w h0 h1 y hzl hzk hfl hfk hrl hrk hs hL hK
              · exact back_all001 v0 v1 l k name other v w h0 h1 y hzl hzk hfl hfk hrl hrk hs hL hK
          | some x =>
            cases hK : get k other with
            | none =>
              by_cases hs : name = other
              · exact back_all110 v0 v1 l k name other v w h0 h1 x hzl hzk hfl hfk hrl hrk hs hL hK
              · exact back_all010 v0 v1 l k name other v w h0 h1 x hzl hzk hfl hfk hrl hrk hs hL hK
            | some y =>
              by_cases hs : name = other
              · exact back_all111 v0 v1 l k name other v w h0 h1 x y hzl hzk hfl hfk hrl hrk hs hL hK
              · exact back_all011 v0 v1 l k name other v w h0 h1 x y hzl hzk hfl hfk hrl hrk hs hL hK
        · exact back_right1 v0 v1 l k name other v w h0 h1 hzl hzk hfl hfk hrl hrk
      · exact back_right0 v0 v1 l k name other v w h0 h1 hzl hzk hfl hfk hrl
    · exact back_few10 v0 v1 l k name other v w h0 h1 hzl hzk hfl hfk
  · by_cases hfk : weight k < 3000
    · exact back_few01 v0 v1 l k name other v w h0 h1 hzl hzk hfl hfk
    · exact back_few00 v0 v1 l k name other v w h0 h1 hzl hzk hfl hfk

set_option maxRecDepth 100000 in
theorem back_lifted (os : Os) (started : os.Started) (H : Type) (enc : TypeId × Value → H) :
    ReturnsInHanded {} Try.checked os 4 .any (Rows.varsBackSpec.pre6 enc Try.prog Try.f4 Rows.varsBackRow.domain false) (Rows.varsBackSpec.post enc Try.prog Try.f4 false true false false) := by
  refine returnsInHanded_of_change_sized (C := Try.checked) own started (by kernel_rfl) Try.func4
    (ChangeSpec.witness6 (enc := enc) (C := Try.checked) false ⟨#[], #[.slice none 0 0, .slice none 0 0, .string { data := #[] }, .string { data := #[] }, .string { data := #[] }], []⟩ 8 (by kernel_rfl) (by kernel_rfl) (by kernel_rfl) (by kernel_rfl)) ?_
  intro W base args ds gs before hval0 hW _ hsz0 _
  have hsz : (DataW.weightsEach Try.prog (Try.f4.params.toList ++ Rows.varsBackSpec.plain.varTypes Try.prog) (ds ++ gs)).all (· ≤ reachBytes) = true := hsz0
  clear hsz0
  have hval : ∀ (j : Nat) t v, Try.f4.params[j]? = some t → args[j]? = some v → Value.okWide Try.prog W .any base t v := hval0
  have hW' := hW
  obtain ⟨p, q, hA0, hV, rfl, _, _⟩ := hW
  have hA : DataW.TrodAll enc Try.prog W 0 (fun _ => true) true Try.f4.params.toList args.toList ds p := hA0
  rw [Try.params4] at hA hval hsz
  obtain ⟨v0, v1, v2, v3, v4, d0, d1, d2, d3, d4, p0, p1, p2, p3, p4, rfl, rfl, rfl, h0, h1, h2, h3, h4⟩ := trodAll_five hA
  obtain ⟨rfl, rfl⟩ := trodVars_none hV
  obtain ⟨a0, len0, cap0, rfl⟩ := okWide_slice Try.underlying22 (hval 0 22 v0 rfl rfl)
  obtain ⟨gl, hg0, hw0⟩ := open_pairs h0
  have hz0 : Small gl := fun q hq => ⟨of_decide_eq_true (List.all_eq_true.1 hsz _ (DataW.weights_mem_each (j := 0) (t := 22) rfl rfl _ (hw0 q hq).1)), of_decide_eq_true (List.all_eq_true.1 hsz _ (DataW.weights_mem_each (j := 0) (t := 22) rfl rfl _ (hw0 q hq).2))⟩
  obtain ⟨a1, len1, cap1, rfl⟩ := okWide_slice Try.underlying22 (hval 1 22 v1 rfl rfl)
  obtain ⟨gk, hg1, hw1⟩ := open_pairs h1
  have hz1 : Small gk := fun q hq => ⟨of_decide_eq_true (List.all_eq_true.1 hsz _ (DataW.weights_mem_each (j := 1) (t := 22) rfl rfl _ (hw1 q hq).1)), of_decide_eq_true (List.all_eq_true.1 hsz _ (DataW.weights_mem_each (j := 1) (t := 22) rfl rfl _ (hw1 q hq).2))⟩
  obtain ⟨name, rfl, rfl, rfl, hl_name⟩ := Go.ChangeMaps.open_string Try.underlying9 (hval 2 9 v2 rfl rfl) h2
  have hz_name : name.size ≤ 140737488351232 := by have := sized_string hsz (j := 2) (t := 9) rfl rfl; rw [size_list] at this; exact this
  obtain ⟨other, rfl, rfl, rfl, hl_other⟩ := Go.ChangeMaps.open_string Try.underlying9 (hval 3 9 v3 rfl rfl) h3
  have hz_other : other.size ≤ 140737488351232 := by have := sized_string hsz (j := 3) (t := 9) rfl rfl; rw [size_list] at this; exact this
  obtain ⟨v, rfl, rfl, rfl, hl_v⟩ := Go.ChangeMaps.open_string Try.underlying9 (hval 4 9 v4 rfl rfl) h4
  have hz_v : v.size ≤ 140737488351232 := by have := sized_string hsz (j := 4) (t := 9) rfl rfl; rw [size_list] at this; exact this
  refine (back_ok _ _ gl gk name other v W hg0 hg1 hz0 hz1).mono fun e W' ⟨he, hb⟩ => ?_
  subst he
  exact ⟨_, rfl, law_shut laidOut (by kernel_rfl) (by kernel_rfl) Try.underlying4 rfl hW' rfl hb⟩

theorem back_holds : Rows.VarsBackSaid :=
  OpenClaim.holds_of_wide 4 Try.f4 rfl rfl rfl rfl rfl rfl rfl ⟨rfl, rfl, rfl, rfl, rfl⟩ rfl rfl rfl rfl rfl (by kernel_rfl) Try.func4 (by kernel_rfl)
    (of_decide_eq_true (by kernel_rfl)) (by unfold Func.isWrapper; rw [if_neg (of_decide_eq_false (by kernel_rfl))]; exact ⟨rfl, rfl⟩)
    (fun os started H enc _ => back_lifted os started H enc)
end Go.Proofs.Ytjckfdpkcaloiaa
