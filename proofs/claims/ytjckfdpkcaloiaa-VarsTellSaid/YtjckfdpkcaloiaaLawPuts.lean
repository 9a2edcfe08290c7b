/- Any row, any two names and values: VarsPuts answers true, and leaves what was there as it was. -/
import Derived.Test.YtjckfdpkcaloiaaLawOver
namespace Go.Proofs.Ytjckfdpkcaloiaa
open Go.RowKit Go.Lib Go.WideShapes Go.ChangeShapes Go.ChangeAt Go.Joins

theorem get_some {v : Value} {g : Pairs} {n x : ByteArray} {w : World} (h : Holds w v g) (e : get g n = some x) :
    Calls Try.prog 10 #[v, .string n] w fun e w' => e = .returned (.tuple #[.string x, .bool true]) ∧ Below w.heap.size w w' := by
  have := get_any v g n w h; rw [e] at this; simpa [gotV, e] using this

theorem get_nothing {v : Value} {g : Pairs} {n : ByteArray} {w : World} (h : Holds w v g) (e : get g n = none) :
    Calls Try.prog 10 #[v, .string n] w fun e w' => e = .returned (.tuple #[.string { data := #[] }, .bool false]) ∧ Below w.heap.size w w' := by
  have := get_any v g n w h; rw [e] at this; simpa [gotV, e] using this

theorem put_swap {g : Pairs} (h : Rise g) {a b v u : ByteArray} (hab : a ≠ b) : put (put g a v) b u = put (put g b u) a v :=
  rise_ext (put_rise (put_rise h _ _) _ _) (put_rise (put_rise h _ _) _ _) fun n => by
    rw [get_put (put_rise h _ _), get_put h, get_put (put_rise h _ _), get_put h]
    by_cases h1 : b = n
    · subst h1; rw [if_pos rfl, if_neg hab, if_pos rfl]
    · rw [if_neg h1, if_neg h1]

theorem drop_put {g : Pairs} (h : Rise g) (a v : ByteArray) : drop (put g a v) a = drop g a :=
  rise_ext (drop_rise (put_rise h _ _) _) (drop_rise h _) fun n => by
    rw [get_drop, get_put h, get_drop]
    by_cases h1 : a = n <;> simp [h1]

theorem drop_none {g : Pairs} (h : Rise g) {a : ByteArray} (e : get g a = none) : drop g a = g :=
  rise_ext (drop_rise h _) h fun n => by
    rw [get_drop]
    by_cases h1 : a = n
    · subst h1; rw [if_pos rfl, e]
    · rw [if_neg h1]

theorem put_len {g : Pairs} (h : Rise g) (a v : ByteArray) : (put g a v).length = if (get g a).isSome then g.length else g.length + 1 := by
  rw [put_place, there_iff h]
  split
  · rw [List.length_set]
  · have := place_le g a
    rw [List.length_append, List.length_cons, List.length_take, List.length_drop]; omega

set_option maxHeartbeats 4000000 in
theorem puts_few (v0 : Value) (l : Pairs) (a b v u : ByteArray) (w : World) (h0 : Holds w v0 l) (hz : Small l)  (hf : ¬ weight l < 3000) :
    Calls Try.prog 6 #[v0, .string a, .string b, .string v, .string u] w fun e w' => e = .returned (.bool true) ∧ Below w.heap.size w w' := by
  obtain ⟨fa, fc, rfl⟩ := h0.form
  have H_l_0 := Lib.hid h0
  clear h0
  go_enter Try.func6, Try.ntmps6
  have B0 := Lib.hid (Below.refl w.heap.size w)
  have z0 : w.heap.size ≤ w.heap.size := Nat.le_refl _
  go_wp2_with fail
  refine (shown_true _).mono ?_; rintro e w1 ⟨rfl, hb⟩
  have B1 := Lib.hid (B0.out.step hb z0)
  have z1 := B1.out.size
  have H_l_1 := Lib.hid (H_l_0.out.grown hb (Nat.le_refl _))
  clear hb B0 z0 H_l_0
  go_wp2_with fail
  refine (few_no _ l _ H_l_1.out hz hf).mono ?_; rintro e w2 ⟨rfl, hb⟩
  have B2 := Lib.hid (B1.out.step hb z1)
  have z2 := B2.out.size
  have H_l_2 := Lib.hid (H_l_1.out.grown hb (Nat.le_refl _))
  clear hb B1 z1 H_l_1
  go_wp2_with fail
  go_ret
  exact ⟨rfl, B2.out⟩

set_option maxHeartbeats 4000000 in
theorem puts_right (v0 : Value) (l : Pairs) (a b v u : ByteArray) (w : World) (h0 : Holds w v0 l) (hz : Small l)  (hf : weight l < 3000) (hr : ¬ Rise l) :
    Calls Try.prog 6 #[v0, .string a, .string b, .string v, .string u] w fun e w' => e = .returned (.bool true) ∧ Below w.heap.size w w' := by
  obtain ⟨fa, fc, rfl⟩ := h0.form
  have H_l_0 := Lib.hid h0
  clear h0
  go_enter Try.func6, Try.ntmps6
  have B0 := Lib.hid (Below.refl w.heap.size w)
  have z0 : w.heap.size ≤ w.heap.size := Nat.le_refl _
  go_wp2_with fail
  refine (shown_true _).mono ?_; rintro e w1 ⟨rfl, hb⟩
  have B1 := Lib.hid (B0.out.step hb z0)
  have z1 := B1.out.size
  have H_l_1 := Lib.hid (H_l_0.out.grown hb (Nat.le_refl _))
  clear hb B0 z0 H_l_0
  go_wp2_with fail
  refine (few_yes _ l _ H_l_1.out hz hf).mono ?_; rintro e w2 ⟨rfl, hb⟩
  have B2 := Lib.hid (B1.out.step hb z1)
  have z2 := B2.out.size
  have H_l_2 := Lib.hid (H_l_1.out.grown hb (Nat.le_refl _))
  clear hb B1 z1 H_l_1
  go_wp2_with fail
  refine (right_no _ l _ H_l_2.out hr).mono ?_; rintro e w3 ⟨rfl, hb⟩
  have B3 := Lib.hid (B2.out.step hb z2)
  have z3 := B3.out.size
  have H_l_3 := Lib.hid (H_l_2.out.grown hb (Nat.le_refl _))
  clear hb B2 z2 H_l_2
  go_wp2_with fail
  go_ret
  exact ⟨rfl, B3.out⟩

set_option maxHeartbeats 4000000 in
theorem puts_long (v0 : Value) (l : Pairs) (a b v u : ByteArray) (w : World) (h0 : Holds w v0 l) (hz : Small l) (hsa : a.size ≤ 140737488351232) (hsb : b.size ≤ 140737488351232) (hsv : v.size ≤ 140737488351232) (hsu : u.size ≤ 140737488351232) (hf : weight l < 3000) (hr : Rise l) (hl : 500 < a.size + b.size + v.size + u.size) :
    Calls Try.prog 6 #[v0, .string a, .string b, .string v, .string u] w fun e w' => e = .returned (.bool true) ∧ Below w.heap.size w w' := by
  have hl2 : (500 : Int) < (a.size : Int) + b.size + v.size + u.size := by omega
  obtain ⟨fa, fc, rfl⟩ := h0.form
  have H_l_0 := Lib.hid h0
  clear h0
  go_enter Try.func6, Try.ntmps6
  have B0 := Lib.hid (Below.refl w.heap.size w)
  have z0 : w.heap.size ≤ w.heap.size := Nat.le_refl _
  go_wp2_with fail
  refine (shown_true _).mono ?_; rintro e w1 ⟨rfl, hb⟩
  have B1 := Lib.hid (B0.out.step hb z0)
  have z1 := B1.out.size
  have H_l_1 := Lib.hid (H_l_0.out.grown hb (Nat.le_refl _))
  clear hb B0 z0 H_l_0
  go_wp2_with fail
  refine (few_yes _ l _ H_l_1.out hz hf).mono ?_; rintro e w2 ⟨rfl, hb⟩
  have B2 := Lib.hid (B1.out.step hb z1)
  have z2 := B2.out.size
  have H_l_2 := Lib.hid (H_l_1.out.grown hb (Nat.le_refl _))
  clear hb B1 z1 H_l_1
  go_wp2_with fail
  refine (right_yes _ l _ H_l_2.out hr).mono ?_; rintro e w3 ⟨rfl, hb⟩
  have B3 := Lib.hid (B2.out.step hb z2)
  have z3 := B3.out.size
  have H_l_3 := Lib.hid (H_l_2.out.grown hb (Nat.le_refl _))
  clear hb B2 z2 H_l_2
  go_wp2_with fail
  go_ret
  exact ⟨rfl, B3.out⟩

set_option maxHeartbeats 4000000 in
theorem puts_all00 (v0 : Value) (l : Pairs) (a b v u : ByteArray) (w : World) (h0 : Holds w v0 l) (hz : Small l)  (hf : weight l < 3000) (hr : Rise l) (hl : a.size + b.size + v.size + u.size ≤ 500) (hab : a ≠ b) (hth : get l a = none) :
    Calls Try.prog 6 #[v0, .string a, .string b, .string v, .string u] w fun e w' => e = .returned (.bool true) ∧ Below w.heap.size w w' := by
  have hl2 : (a.size : Int) + b.size + v.size + u.size ≤ 500 := by omega
  have la := weight_len l; have p1 := put_length l a v; have p2 := put_length l b u; have p3 := put_length (put l a v) b u; have p4 := put_length (put l b u) a v
  have HR1 := Lib.hid (put_rise hr a v); have HR2 := Lib.hid (put_rise hr b u); have HDP := Lib.hid (drop_put hr a v); have HL := Lib.hid (put_len hr a v)
  have he : (a.toList == b.toList) = false := by rw [eq_lists]; simpa using hab
  have HSW := Lib.hid (put_swap (v := v) (u := u) hr hab)
  have HDN := Lib.hid (drop_none hr hth)
  rw [hth, if_neg (by simp)] at HL
  have HX := Lib.hid hth
  clear hth
  have HRL := Lib.hid hr; clear hr hab
  have hd2 : (drop l a).length ≤ l.length := List.length_filter_le _ _
  obtain ⟨fa, fc, rfl⟩ := h0.form
  have H_l_0 := Lib.hid h0
  clear h0
  go_enter Try.func6, Try.ntmps6
  have B0 := Lib.hid (Below.refl w.heap.size w)
  have z0 : w.heap.size ≤ w.heap.size := Nat.le_refl _
  go_wp2_with fail
  refine (shown_true _).mono ?_; rintro e w1 ⟨rfl, hb⟩
  have B1 := Lib.hid (B0.out.step hb z0)
  have z1 := B1.out.size
  have H_l_1 := Lib.hid (H_l_0.out.grown hb (Nat.le_refl _))
  clear hb B0 z0 H_l_0
  go_wp2_with fail
  refine (few_yes _ l _ H_l_1.out hz hf).mono ?_; rintro e w2 ⟨rfl, hb⟩
  have B2 := Lib.hid (B1.out.step hb z1)
  have z2 := B2.out.size
  have H_l_2 := Lib.hid (H_l_1.out.grown hb (Nat.le_refl _))
  clear hb B1 z1 H_l_1
  go_wp2_with fail
  refine (right_yes _ l _ H_l_2.out HRL.out).mono ?_; rintro e w3 ⟨rfl, hb⟩
  have B3 := Lib.hid (B2.out.step hb z2)
  have z3 := B3.out.size
  have H_l_3 := Lib.hid (H_l_2.out.grown hb (Nat.le_refl _))
  clear hb B2 z2 H_l_2
  go_wp2_with fail
  refine (put_any _ l a v _ H_l_3.out HRL.out (by omega)).mono ?_; rintro e w4 ⟨q1, rfl, hnew, hb⟩
  have B4 := Lib.hid (B3.out.step hb z3)
  have z4 := B4.out.size
  have H_l_4 := Lib.hid (H_l_3.out.grown hb (Nat.le_refl _))
  have H_q1_4 := Lib.hid hnew
  clear hb B3 z3 hnew H_l_3
  go_wp2_with fail
  refine (put_any q1 (put l a v) b u _ H_q1_4.out HR1.out (by omega)).mono ?_; rintro e w5 ⟨x, rfl, hnew, hb⟩
  have B5 := Lib.hid (B4.out.step hb z4)
  have z5 := B5.out.size
  have H_l_5 := Lib.hid (H_l_4.out.grown hb (Nat.le_refl _))
  have H_q1_5 := Lib.hid (H_q1_4.out.grown hb (Nat.le_refl _))
  have H_x_5 := Lib.hid hnew
  clear hb B4 z4 hnew H_l_4 H_q1_4
  clear H_q1_5
  go_wp2_with fail
  refine (put_any _ l b u _ H_l_5.out HRL.out (by omega)).mono ?_; rintro e w6 ⟨q2, rfl, hnew, hb⟩
  have B6 := Lib.hid (B5.out.step hb z5)
  have z6 := B6.out.size
  have H_l_6 := Lib.hid (H_l_5.out.grown hb (Nat.le_refl _))
  have H_x_6 := Lib.hid (H_x_5.out.grown hb (Nat.le_refl _))
  have H_q2_6 := Lib.hid hnew
  clear hb B5 z5 hnew H_l_5 H_x_5
  go_wp2_with fail
  refine (put_any q2 (put l b u) a v _ H_q2_6.out HR2.out (by omega)).mono ?_; rintro e w7 ⟨y, rfl, hnew, hb⟩
  have B7 := Lib.hid (B6.out.step hb z6)
  have z7 := B7.out.size
  have H_l_7 := Lib.hid (H_l_6.out.grown hb (Nat.le_refl _))
  have H_x_7 := Lib.hid (H_x_6.out.grown hb (Nat.le_refl _))
  have H_q2_7 := Lib.hid (H_q2_6.out.grown hb (Nat.le_refl _))
  have H_y_7 := Lib.hid hnew
  clear hb B6 z6 hnew H_l_6 H_x_6 H_q2_6
  clear H_q2_7
  go_wp2_with fail
  refine (asPairs_any y (put (put l b u) a v) _ H_y_7.out (by omega)).mono ?_; rintro e w8 ⟨q3, rfl, hnew, hb⟩
  have B8 := Lib.hid (B7.out.step hb z7)
  have z8 := B8.out.size
  have H_l_8 := Lib.hid (H_l_7.out.grown hb (Nat.le_refl _))
  have H_x_8 := Lib.hid (H_x_7.out.grown hb (Nat.le_refl _))
  have H_y_8 := Lib.hid (H_y_7.out.grown hb (Nat.le_refl _))
  have H_q3_8 := Lib.hid hnew
  clear hb B7 z7 hnew H_l_7 H_x_7 H_y_7
  go_wp2_with fail
  refine (same_any x q3 (put (put l b u) a v) _ (by rw [← HSW.out]; exact H_x_8.out) H_q3_8.out).mono ?_; rintro e w9 ⟨rfl, hb⟩
  have B9 := Lib.hid (B8.out.step hb z8)
  have z9 := B9.out.size
  have H_l_9 := Lib.hid (H_l_8.out.grown hb (Nat.le_refl _))
  have H_x_9 := Lib.hid (H_x_8.out.grown hb (Nat.le_refl _))
  have H_y_9 := Lib.hid (H_y_8.out.grown hb (Nat.le_refl _))
  have H_q3_9 := Lib.hid (H_q3_8.out.grown hb (Nat.le_refl _))
  clear hb B8 z8 H_l_8 H_x_8 H_y_8 H_q3_8
  clear H_q3_9
  clear H_x_9 H_y_9
  go_wp2_with fail
  refine (get_nothing H_l_9.out HX.out).mono ?_; rintro e w10 ⟨rfl, hb⟩
  have B10 := Lib.hid (B9.out.step hb z9)
  have z10 := B10.out.size
  have H_l_10 := Lib.hid (H_l_9.out.grown hb (Nat.le_refl _))
  clear hb B9 z9 H_l_9
  go_wp2_with fail
  refine (put_any _ l a v _ H_l_10.out HRL.out (by omega)).mono ?_; rintro e w11 ⟨q4, rfl, hnew, hb⟩
  have B11 := Lib.hid (B10.out.step hb z10)
  have z11 := B11.out.size
  have H_l_11 := Lib.hid (H_l_10.out.grown hb (Nat.le_refl _))
  have H_q4_11 := Lib.hid hnew
  clear hb B10 z10 hnew H_l_10
  go_wp2_with fail
  refine (drop_any q4 (put l a v) a _ H_q4_11.out HR1.out (by omega)).mono ?_; rintro e w12 ⟨z, rfl, hnew, hb⟩
  have B12 := Lib.hid (B11.out.step hb z11)
  have z12 := B12.out.size
  have H_l_12 := Lib.hid (H_l_11.out.grown hb (Nat.le_refl _))
  have H_q4_12 := Lib.hid (H_q4_11.out.grown hb (Nat.le_refl _))
  rw [HDP.out] at hnew
  have H_z_12 := Lib.hid hnew
  clear hb B11 z11 hnew H_l_11 H_q4_11
  clear H_q4_12
  go_wp2_with fail
  refine (asPairs_any _ l _ H_l_12.out (by omega)).mono ?_; rintro e w13 ⟨q5, rfl, hnew, hb⟩
  have B13 := Lib.hid (B12.out.step hb z12)
  have z13 := B13.out.size
  have H_l_13 := Lib.hid (H_l_12.out.grown hb (Nat.le_refl _))
  have H_z_13 := Lib.hid (H_z_12.out.grown hb (Nat.le_refl _))
  have H_q5_13 := Lib.hid hnew
  clear hb B12 z12 hnew H_l_12 H_z_12
  go_wp2_with fail
  refine (same_any z q5 l _ (by rw [← HDN.out]; exact H_z_13.out) H_q5_13.out).mono ?_; rintro e w14 ⟨rfl, hb⟩
  have B14 := Lib.hid (B13.out.step hb z13)
  have z14 := B14.out.size
  have H_l_14 := Lib.hid (H_l_13.out.grown hb (Nat.le_refl _))
  have H_z_14 := Lib.hid (H_z_13.out.grown hb (Nat.le_refl _))
  have H_q5_14 := Lib.hid (H_q5_13.out.grown hb (Nat.le_refl _))
  clear hb B13 z13 H_l_13 H_z_13 H_q5_13
  clear H_q5_14
  go_wp2_with fail
  refine (put_any _ l a v _ H_l_14.out HRL.out (by omega)).mono ?_; rintro e w15 ⟨q6, rfl, hnew, hb⟩
  have B15 := Lib.hid (B14.out.step hb z14)
  have z15 := B15.out.size
  have H_l_15 := Lib.hid (H_l_14.out.grown hb (Nat.le_refl _))
  have H_z_15 := Lib.hid (H_z_14.out.grown hb (Nat.le_refl _))
  obtain ⟨pa, pc, rfl⟩ := hnew.form
  rw [HL.out]
  have H_q6_15 := Lib.hid hnew
  clear hb B14 z14 hnew H_l_14 H_z_14
  clear H_q6_15
  go_wp2_with fail
  refine (drop_any _ l a _ H_l_15.out HRL.out (by omega)).mono ?_; rintro e w16 ⟨q7, rfl, hnew, hb⟩
  have B16 := Lib.hid (B15.out.step hb z15)
  have z16 := B16.out.size
  have H_l_16 := Lib.hid (H_l_15.out.grown hb (Nat.le_refl _))
  have H_z_16 := Lib.hid (H_z_15.out.grown hb (Nat.le_refl _))
  have H_q7_16 := Lib.hid hnew
  clear hb B15 z15 hnew H_l_15 H_z_15
  go_wp2_with fail
  refine (asPairs_any z (drop l a) _ H_z_16.out (by omega)).mono ?_; rintro e w17 ⟨q8, rfl, hnew, hb⟩
  have B17 := Lib.hid (B16.out.step hb z16)
  have z17 := B17.out.size
  have H_l_17 := Lib.hid (H_l_16.out.grown hb (Nat.le_refl _))
  have H_z_17 := Lib.hid (H_z_16.out.grown hb (Nat.le_refl _))
  have H_q7_17 := Lib.hid (H_q7_16.out.grown hb (Nat.le_refl _))
  have H_q8_17 := Lib.hid hnew
  clear hb B16 z16 hnew H_l_16 H_z_16 H_q7_16
  go_wp2_with fail
  refine (same_any q7 q8 (drop l a) _ H_q7_17.out H_q8_17.out).mono ?_; rintro e w18 ⟨rfl, hb⟩
  have B18 := Lib.hid (B17.out.step hb z17)
  have z18 := B18.out.size
  have H_l_18 := Lib.hid (H_l_17.out.grown hb (Nat.le_refl _))
  have H_z_18 := Lib.hid (H_z_17.out.grown hb (Nat.le_refl _))
  have H_q7_18 := Lib.hid (H_q7_17.out.grown hb (Nat.le_refl _))
  have H_q8_18 := Lib.hid (H_q8_17.out.grown hb (Nat.le_refl _))
  clear hb B17 z17 H_l_17 H_z_17 H_q7_17 H_q8_17
  go_wp2_with fail
  go_ret
  exact ⟨rfl, B18.out⟩

set_option maxHeartbeats 4000000 in
theorem puts_all01 (v0 : Value) (l : Pairs) (a b v u : ByteArray) (w : World) (h0 : Holds w v0 l) (hz : Small l)  (hf : weight l < 3000) (hr : Rise l) (hl : a.size + b.size + v.size + u.size ≤ 500) (hab : a ≠ b) (hth : (get l a).isSome = true) :
    Calls Try.prog 6 #[v0, .string a, .string b, .string v, .string u] w fun e w' => e = .returned (.bool true) ∧ Below w.heap.size w w' := by
  have hl2 : (a.size : Int) + b.size + v.size + u.size ≤ 500 := by omega
  have la := weight_len l; have p1 := put_length l a v; have p2 := put_length l b u; have p3 := put_length (put l a v) b u; have p4 := put_length (put l b u) a v
  have HR1 := Lib.hid (put_rise hr a v); have HR2 := Lib.hid (put_rise hr b u); have HDP := Lib.hid (drop_put hr a v); have HL := Lib.hid (put_len hr a v)
  have he : (a.toList == b.toList) = false := by rw [eq_lists]; simpa using hab
  have HSW := Lib.hid (put_swap (v := v) (u := u) hr hab)
  obtain ⟨x0, hx0⟩ := Option.isSome_iff_exists.1 hth
  rw [hth, if_pos rfl] at HL
  have HX := Lib.hid hx0
  clear hx0 hth
  have HRL := Lib.hid hr; clear hr hab
  have hd2 : (drop l a).length ≤ l.length := List.length_filter_le _ _
  obtain ⟨fa, fc, rfl⟩ := h0.form
  have H_l_0 := Lib.hid h0
  clear h0
  go_enter Try.func6, Try.ntmps6
  have B0 := Lib.hid (Below.refl w.heap.size w)
  have z0 : w.heap.size ≤ w.heap.size := Nat.le_refl _
  go_wp2_with fail
  refine (shown_true _).mono ?_; rintro e w1 ⟨rfl, hb⟩
  have B1 := Lib.hid (B0.out.step hb z0)
  have z1 := B1.out.size
  have H_l_1 := Lib.hid (H_l_0.out.grown hb (Nat.le_refl _))
  clear hb B0 z0 H_l_0
  go_wp2_with fail
  refine (few_yes _ l _ H_l_1.out hz hf).mono ?_; rintro e w2 ⟨rfl, hb⟩
  have B2 := Lib.hid (B1.out.step hb z1)
  have z2 := B2.out.size
  have H_l_2 := Lib.hid (H_l_1.out.grown hb (Nat.le_refl _))
  clear hb B1 z1 H_l_1
  go_wp2_with fail
  refine (right_yes _ l _ H_l_2.out HRL.out).mono ?_; rintro e w3 ⟨rfl, hb⟩
  have B3 := Lib.hid (B2.out.step hb z2)
  have z3 := B3.out.size
  have H_l_3 := Lib.hid (H_l_2.out.grown hb (Nat.le_refl _))
  clear hb B2 z2 H_l_2
  go_wp2_with fail
  refine (put_any _ l a v _ H_l_3.out HRL.out (by omega)).mono ?_; rintro e w4 ⟨q1, rfl, hnew, hb⟩
  have B4 := Lib.hid (B3.out.step hb z3)
  have z4 := B4.out.size
  have H_l_4 := Lib.hid (H_l_3.out.grown hb (Nat.le_refl _))
  have H_q1_4 := Lib.hid hnew
  clear hb B3 z3 hnew H_l_3
  go_wp2_with fail
  refine (put_any q1 (put l a v) b u _ H_q1_4.out HR1.out (by omega)).mono ?_; rintro e w5 ⟨x, rfl, hnew, hb⟩
  have B5 := Lib.hid (B4.out.step hb z4)
  have z5 := B5.out.size
  have H_l_5 := Lib.hid (H_l_4.out.grown hb (Nat.le_refl _))
  have H_q1_5 := Lib.hid (H_q1_4.out.grown hb (Nat.le_refl _))
  have H_x_5 := Lib.hid hnew
  clear hb B4 z4 hnew H_l_4 H_q1_4
  clear H_q1_5
  go_wp2_with fail
  refine (put_any _ l b u _ H_l_5.out HRL.out (by omega)).mono ?_; rintro e w6 ⟨q2, rfl, hnew, hb⟩
  have B6 := Lib.hid (B5.out.step hb z5)
  have z6 := B6.out.size
  have H_l_6 := Lib.hid (H_l_5.out.grown hb (Nat.le_refl _))
  have H_x_6 := Lib.hid (H_x_5.out.grown hb (Nat.le_refl _))
  have H_q2_6 := Lib.hid hnew
  clear hb B5 z5 hnew H_l_5 H_x_5
  go_wp2_with fail
  refine (put_any q2 (put l b u) a v _ H_q2_6.out HR2.out (by omega)).mono ?_; rintro e w7 ⟨y, rfl, hnew, hb⟩
  have B7 := Lib.hid (B6.out.step hb z6)
  have z7 := B7.out.size
  have H_l_7 := Lib.hid (H_l_6.out.grown hb (Nat.le_refl _))
  have H_x_7 := Lib.hid (H_x_6.out.grown hb (Nat.le_refl _))
  have H_q2_7 := Lib.hid (H_q2_6.out.grown hb (Nat.le_refl _))
  have H_y_7 := Lib.hid hnew
  clear hb B6 z6 hnew H_l_6 H_x_6 H_q2_6
  clear H_q2_7
  go_wp2_with fail
  refine (asPairs_any y (put (put l b u) a v) _ H_y_7.out (by omega)).mono ?_; rintro e w8 ⟨q3, rfl, hnew, hb⟩
  have B8 := Lib.hid (B7.out.step hb z7)
  have z8 := B8.out.size
  have H_l_8 := Lib.hid (H_l_7.out.grown hb (Nat.le_refl _))
  have H_x_8 := Lib.hid (H_x_7.out.grown hb (Nat.le_refl _))
  have H_y_8 := Lib.hid (H_y_7.out.grown hb (Nat.le_refl _))
  have H_q3_8 := Lib.hid hnew
  clear hb B7 z7 hnew H_l_7 H_x_7 H_y_7
  go_wp2_with fail
  refine (same_any x q3 (put (put l b u) a v) _ (by rw [← HSW.out]; exact H_x_8.out) H_q3_8.out).mono ?_; rintro e w9 ⟨rfl, hb⟩
  have B9 := Lib.hid (B8.out.step hb z8)
  have z9 := B9.out.size
  have H_l_9 := Lib.hid (H_l_8.out.grown hb (Nat.le_refl _))
  have H_x_9 := Lib.hid (H_x_8.out.grown hb (Nat.le_refl _))
  have H_y_9 := Lib.hid (H_y_8.out.grown hb (Nat.le_refl _))
  have H_q3_9 := Lib.hid (H_q3_8.out.grown hb (Nat.le_refl _))
  clear hb B8 z8 H_l_8 H_x_8 H_y_8 H_q3_8
  clear H_q3_9
  clear H_x_9 H_y_9
  go_wp2_with fail
  refine (get_some H_l_9.out HX.out).mono ?_; rintro e w10 ⟨rfl, hb⟩
  have B10 := Lib.hid (B9.out.step hb z9)
  have z10 := B10.out.size
  have H_l_10 := Lib.hid (H_l_9.out.grown hb (Nat.le_refl _))
  clear hb B9 z9 H_l_9
  go_wp2_with fail
  refine (put_any _ l a v _ H_l_10.out HRL.out (by omega)).mono ?_; rintro e w11 ⟨q4, rfl, hnew, hb⟩
  have B11 := Lib.hid (B10.out.step hb z10)
  have z11 := B11.out.size
  have H_l_11 := Lib.hid (H_l_10.out.grown hb (Nat.le_refl _))
  have H_q4_11 := Lib.hid hnew
  clear hb B10 z10 hnew H_l_10
  go_wp2_with fail
  refine (drop_any q4 (put l a v) a _ H_q4_11.out HR1.out (by omega)).mono ?_; rintro e w12 ⟨z, rfl, hnew, hb⟩
  have B12 := Lib.hid (B11.out.step hb z11)
  have z12 := B12.out.size
  have H_l_12 := Lib.hid (H_l_11.out.grown hb (Nat.le_refl _))
  have H_q4_12 := Lib.hid (H_q4_11.out.grown hb (Nat.le_refl _))
  rw [HDP.out] at hnew
  have H_z_12 := Lib.hid hnew
  clear hb B11 z11 hnew H_l_11 H_q4_11
  clear H_q4_12
  go_wp2_with fail
  refine (put_any _ l a v _ H_l_12.out HRL.out (by omega)).mono ?_; rintro e w13 ⟨q6, rfl, hnew, hb⟩
  have B13 := Lib.hid (B12.out.step hb z12)
  have z13 := B13.out.size
  have H_l_13 := Lib.hid (H_l_12.out.grown hb (Nat.le_refl _))
  have H_z_13 := Lib.hid (H_z_12.out.grown hb (Nat.le_refl _))
  obtain ⟨pa, pc, rfl⟩ := hnew.form
  rw [HL.out]
  have H_q6_13 := Lib.hid hnew
  clear hb B12 z12 hnew H_l_12 H_z_12
  clear H_q6_13
  go_wp2_with fail
  refine (drop_any _ l a _ H_l_13.out HRL.out (by omega)).mono ?_; rintro e w14 ⟨q7, rfl, hnew, hb⟩
  have B14 := Lib.hid (B13.out.step hb z13)
  have z14 := B14.out.size
  have H_l_14 := Lib.hid (H_l_13.out.grown hb (Nat.le_refl _))
  have H_z_14 := Lib.hid (H_z_13.out.grown hb (Nat.le_refl _))
  have H_q7_14 := Lib.hid hnew
  clear hb B13 z13 hnew H_l_13 H_z_13
  go_wp2_with fail
  refine (asPairs_any z (drop l a) _ H_z_14.out (by omega)).mono ?_; rintro e w15 ⟨q8, rfl, hnew, hb⟩
  have B15 := Lib.hid (B14.out.step hb z14)
  have z15 := B15.out.size
  have H_l_15 := Lib.hid (H_l_14.out.grown hb (Nat.le_refl _))
  have H_z_15 := Lib.hid (H_z_14.out.grown hb (Nat.le_refl _))
  have H_q7_15 := Lib.hid (H_q7_14.out.grown hb (Nat.le_refl _))
  have H_q8_15 := Lib.hid hnew
  clear hb B14 z14 hnew H_l_14 H_z_14 H_q7_14
  go_wp2_with fail
  refine (same_any q7 q8 (drop l a) _ H_q7_15.out H_q8_15.out).mono ?_; rintro e w16 ⟨rfl, hb⟩
  have B16 := Lib.hid (B15.out.step hb z15)
  have z16 := B16.out.size
  have H_l_16 := Lib.hid (H_l_15.out.grown hb (Nat.le_refl _))
  have H_z_16 := Lib.hid (H_z_15.out.grown hb (Nat.le_refl _))
  have H_q7_16 := Lib.hid (H_q7_15.out.grown hb (Nat.le_refl _))
  have H_q8_16 := Lib.hid (H_q8_15.out.grown hb (Nat.le_refl _))
  clear hb B15 z15 H_l_15 H_z_15 H_q7_15 H_q8_15
  go_wp2_with fail
  go_ret
  exact ⟨rfl, B16.out⟩

set_option maxHeartbeats 4000000 in
theorem puts_all10 (v0 : Value) (l : Pairs) (a b v u : ByteArray) (w : World) (h0 : Holds w v0 l) (hz : Small l)  (hf : weight l < 3000) (hr : Rise l) (hl : a.size + b.size + v.size + u.size ≤ 500) (hab : a = b) (hth : get l a = none) :
    Calls Try.prog 6 #[v0, .string a, .string b, .string v, .string u] w fun e w' => e = .returned (.bool true) ∧ Below w.heap.size w w' := by
  have hl2 : (a.size : Int) + b.size + v.size + u.size ≤ 500 := by omega
  have la := weight_len l; have p1 := put_length l a v; have p2 := put_length l b u; have p3 := put_length (put l a v) b u; have p4 := put_length (put l b u) a v
  have HR1 := Lib.hid (put_rise hr a v); have HR2 := Lib.hid (put_rise hr b u); have HDP := Lib.hid (drop_put hr a v); have HL := Lib.hid (put_len hr a v)
  have he : (a.toList == b.toList) = true := by rw [hab]; simp
  have HDN := Lib.hid (drop_none hr hth)
  rw [hth, if_neg (by simp)] at HL
  have HX := Lib.hid hth
  clear hth
  have HRL := Lib.hid hr; clear hr hab
  have hd2 : (drop l a).length ≤ l.length := List.length_filter_le _ _
  obtain ⟨fa, fc, rfl⟩ := h0.form
  have H_l_0 := Lib.hid h0
  clear h0
  go_enter Try.func6, Try.ntmps6
  have B0 := Lib.hid (Below.refl w.heap.size w)
  have z0 : w.heap.size ≤ w.heap.size := Nat.le_refl _
  go_wp2_with fail
  refine (shown_true _).mono ?_; rintro e w1 ⟨rfl, hb⟩
  have B1 := Lib.hid (B0.out.step hb z0)
  have z1 := B1.out.size
  have H_l_1 := Lib.hid (H_l_0.out.grown hb (Nat.le_refl _))
  clear hb B0 z0 H_l_0
  go_wp2_with fail
  refine (few_yes _ l _ H_l_1.out hz hf).mono ?_; rintro e w2 ⟨rfl, hb⟩
  have B2 := Lib.hid (B1.out.step hb z1)
  have z2 := B2.out.size
  have H_l_2 := Lib.hid (H_l_1.out.grown hb (Nat.le_refl _))
  clear hb B1 z1 H_l_1
  go_wp2_with fail
  refine (right_yes _ l _ H_l_2.out HRL.out).mono ?_; rintro e w3 ⟨rfl, hb⟩
  have B3 := Lib.hid (B2.out.step hb z2)
  have z3 := B3.out.size
  have H_l_3 := Lib.hid (H_l_2.out.grown hb (Nat.le_refl _))
  clear hb B2 z2 H_l_2
  go_wp2_with fail
  refine (put_any _ l a v _ H_l_3.out HRL.out (by omega)).mono ?_; rintro e w4 ⟨q1, rfl, hnew, hb⟩
  have B4 := Lib.hid (B3.out.step hb z3)
  have z4 := B4.out.size
  have H_l_4 := Lib.hid (H_l_3.out.grown hb (Nat.le_refl _))
  have H_q1_4 := Lib.hid hnew
  clear hb B3 z3 hnew H_l_3
  go_wp2_with fail
  refine (put_any q1 (put l a v) b u _ H_q1_4.out HR1.out (by omega)).mono ?_; rintro e w5 ⟨x, rfl, hnew, hb⟩
  have B5 := Lib.hid (B4.out.step hb z4)
  have z5 := B5.out.size
  have H_l_5 := Lib.hid (H_l_4.out.grown hb (Nat.le_refl _))
  have H_q1_5 := Lib.hid (H_q1_4.out.grown hb (Nat.le_refl _))
  have H_x_5 := Lib.hid hnew
  clear hb B4 z4 hnew H_l_4 H_q1_4
  clear H_q1_5
  go_wp2_with fail
  refine (put_any _ l b u _ H_l_5.out HRL.out (by omega)).mono ?_; rintro e w6 ⟨q2, rfl, hnew, hb⟩
  have B6 := Lib.hid (B5.out.step hb z5)
  have z6 := B6.out.size
  have H_l_6 := Lib.hid (H_l_5.out.grown hb (Nat.le_refl _))
  have H_x_6 := Lib.hid (H_x_5.out.grown hb (Nat.le_refl _))
  have H_q2_6 := Lib.hid hnew
  clear hb B5 z5 hnew H_l_5 H_x_5
  go_wp2_with fail
  refine (put_any q2 (put l b u) a v _ H_q2_6.out HR2.out (by omega)).mono ?_; rintro e w7 ⟨y, rfl, hnew, hb⟩
  have B7 := Lib.hid (B6.out.step hb z6)
  have z7 := B7.out.size
  have H_l_7 := Lib.hid (H_l_6.out.grown hb (Nat.le_refl _))
  have H_x_7 := Lib.hid (H_x_6.out.grown hb (Nat.le_refl _))
  have H_q2_7 := Lib.hid (H_q2_6.out.grown hb (Nat.le_refl _))
  have H_y_7 := Lib.hid hnew
  clear hb B6 z6 hnew H_l_6 H_x_6 H_q2_6
  clear H_q2_7
  clear H_x_7 H_y_7
  go_wp2_with fail
  refine (get_nothing H_l_7.out HX.out).mono ?_; rintro e w8 ⟨rfl, hb⟩
  have B8 := Lib.hid (B7.out.step hb z7)
  have z8 := B8.out.size
  have H_l_8 := Lib.hid (H_l_7.out.grown hb (Nat.le_refl _))
  clear hb B7 z7 H_l_7
  go_wp2_with fail
  refine (put_any _ l a v _ H_l_8.out HRL.out (by omega)).mono ?_; rintro e w9 ⟨q4, rfl, hnew, hb⟩
  have B9 := Lib.hid (B8.out.step hb z8)
  have z9 := B9.out.size
  have H_l_9 := Lib.hid (H_l_8.out.grown hb (Nat.le_refl _))
  have H_q4_9 := Lib.hid hnew
  clear hb B8 z8 hnew H_l_8
  go_wp2_with fail
  refine (drop_any q4 (put l a v) a _ H_q4_9.out HR1.out (by omega)).mono ?_; rintro e w10 ⟨z, rfl, hnew, hb⟩
  have B10 := Lib.hid (B9.out.step hb z9)
  have z10 := B10.out.size
  have H_l_10 := Lib.hid (H_l_9.out.grown hb (Nat.le_refl _))
  have H_q4_10 := Lib.hid (H_q4_9.out.grown hb (Nat.le_refl _))
  rw [HDP.out] at hnew
  have H_z_10 := Lib.hid hnew
  clear hb B9 z9 hnew H_l_9 H_q4_9
  clear H_q4_10
  go_wp2_with fail
  refine (asPairs_any _ l _ H_l_10.out (by omega)).mono ?_; rintro e w11 ⟨q5, rfl, hnew, hb⟩
  have B11 := Lib.hid (B10.out.step hb z10)
  have z11 := B11.out.size
  have H_l_11 := Lib.hid (H_l_10.out.grown hb (Nat.le_refl _))
  have H_z_11 := Lib.hid (H_z_10.out.grown hb (Nat.le_refl _))
  have H_q5_11 := Lib.hid hnew
  clear hb B10 z10 hnew H_l_10 H_z_10
  go_wp2_with fail
  refine (same_any z q5 l _ (by rw [← HDN.out]; exact H_z_11.out) H_q5_11.out).mono ?_; rintro e w12 ⟨rfl, hb⟩
  have B12 := Lib.hid (B11.out.step hb z11)
  have z12 := B12.out.size
  have H_l_12 := Lib.hid (H_l_11.out.grown hb (Nat.le_refl _))
  have H_z_12 := Lib.hid (H_z_11.out.grown hb (Nat.le_refl _))
  have H_q5_12 := Lib.hid (H_q5_11.out.grown hb (Nat.le_refl _))
  clear hb B11 z11 H_l_11 H_z_11 H_q5_11
  clear H_q5_12
  go_wp2_with fail
  refine (put_any _ l a v _ H_l_12.out HRL.out (by omega)).mono ?_; rintro e w13 ⟨q6, rfl, hnew, hb⟩
  have B13 := Lib.hid (B12.out.step hb z12)
  have z13 := B13.out.size
  have H_l_13 := Lib.hid (H_l_12.out.grown hb (Nat.le_refl _))
  have H_z_13 := Lib.hid (H_z_12.out.grown hb (Nat.le_refl _))
  obtain ⟨pa, pc, rfl⟩ := hnew.form
  rw [HL.out]
  have H_q6_13 := Lib.hid hnew
  clear hb B12 z12 hnew H_l_12 H_z_12
  clear H_q6_13
  go_wp2_with fail
  refine (drop_any _ l a _ H_l_13.out HRL.out (by omega)).mono ?_; rintro e w14 ⟨q7, rfl, hnew, hb⟩
  have B14 := Lib.hid (B13.out.step hb z13)
  have z14 := B14.out.size
  have H_l_14 := Lib.hid (H_l_13.out.grown hb (Nat.le_refl _))
  have H_z_14 := Lib.hid (H_z_13.out.grown hb (Nat.le_refl _))
  have H_q7_14 := Lib.hid hnew
  clear hb B13 z13 hnew H_l_13 H_z_13
  go_wp2_with fail
  refine (asPairs_any z (drop l a) _ H_z_14.out (by omega)).mono ?_; rintro e w15 ⟨q8, rfl, hnew, hb⟩
  have B15 := Lib.hid (B14.out.step hb z14)
  have z15 := B15.out.size
  have H_l_15 := Lib.hid (H_l_14.out.grown hb (Nat.le_refl _))
  have H_z_15 := Lib.hid (H_z_14.out.grown hb (Nat.le_refl _))
  have H_q7_15 := Lib.hid (H_q7_14.out.grown hb (Nat.le_refl _))
  have H_q8_15 := Lib.hid hnew
  clear hb B14 z14 hnew H_l_14 H_z_14 H_q7_14
  go_wp2_with fail
  refine (same_any q7 q8 (drop l a) _ H_q7_15.out H_q8_15.out).mono ?_; rintro e w16 ⟨rfl, hb⟩
  have B16 := Lib.hid (B15.out.step hb z15)
  have z16 := B16.out.size
  have H_l_16 := Lib.hid (H_l_15.out.grown hb (Nat.le_refl _))
  have H_z_16 := Lib.hid (H_z_15.out.grown hb (Nat.le_refl _))
  have H_q7_16 := Lib.hid (H_q7_15.out.grown hb (Nat.le_refl _))
  have H_q8_16 := Lib.hid (H_q8_15.out.grown hb (Nat.le_refl _))
  clear hb B15 z15 H_l_15 H_z_15 H_q7_15 H_q8_15
  go_wp2_with fail
  go_ret
  exact ⟨rfl, B16.out⟩

set_option maxHeartbeats 4000000 in
theorem puts_all11 (v0 : Value) (l : Pairs) (a b v u : ByteArray) (w : World) (h0 : Holds w v0 l) (hz : Small l)  (hf : weight l < 3000) (hr : Rise l) (hl : a.size + b.size + v.size + u.size ≤ 500) (hab : a = b) (hth : (get l a).isSome = true) :
    Calls Try.prog 6 #[v0, .string a, .string b, .string v, .string u] w fun e w' => e = .returned (.bool true) ∧ Below w.heap.size w w' := by
  have hl2 : (a.size : Int) + b.size + v.size + u.size ≤ 500 := by omega
  have la := weight_len l; have p1 := put_length l a v; have p2 := put_length l b u; have p3 := put_length (put l a v) b u; have p4 := put_length (put l b u) a v
  have HR1 := Lib.hid (put_rise hr a v); have HR2 := Lib.hid (put_rise hr b u); have HDP := Lib.hid (drop_put hr a v); have HL := Lib.hid (put_len hr a v)
  have he : (a.toList == b.toList) = true := by rw [hab]; simp
  obtain ⟨x0, hx0⟩ := Option.isSome_iff_exists.1 hth
  rw [hth, if_pos rfl] at HL
  have HX := Lib.hid hx0
  clear hx0 hth
  have HRL := Lib.hid hr; clear hr hab
  have hd2 : (drop l a).length ≤ l.length := List.length_filter_le _ _
  obtain ⟨fa, fc, rfl⟩ := h0.form
  have H_l_0 := Lib.hid h0
  clear h0
  go_enter Try.func6, Try.ntmps6
  have B0 := Lib.hid (Below.refl w.heap.size w)
  have z0 : w.heap.size ≤ w.heap.size := Nat.le_refl _
  go_wp2_with fail
  refine (shown_true _).mono ?_; rintro e w1 ⟨rfl, hb⟩
  have B1 := Lib.hid (B0.out.step hb z0)
  have z1 := B1.out.size
  have H_l_1 := Lib.hid (H_l_0.out.grown hb (Nat.le_refl _))
  clear hb B0 z0 H_l_0
  go_wp2_with fail
  refine (few_yes _ l _ H_l_1.out hz hf).mono ?_; rintro e w2 ⟨rfl, hb⟩
  have B2 := Lib.hid (B1.out.step hb z1)
  have z2 := B2.out.size
  have H_l_2 := Lib.hid (H_l_1.out.grown hb (Nat.le_refl _))
  clear hb B1 z1 H_l_1
  go_wp2_with fail
  refine (right_yes _ l _ H_l_2.out HRL.out).mono ?_; rintro e w3 ⟨rfl, hb⟩
  have B3 := Lib.hid (B2.out.step hb z2)
  have z3 := B3.out.size
  have H_l_3 := Lib.hid (H_l_2.out.grown hb (Nat.le_refl _))
  clear hb B2 z2 H_l_2
  go_wp2_with fail
  refine (put_any _ l a v _ H_l_3.out HRL.out (by omega)).mono ?_; rintro e w4 ⟨q1, rfl, hnew, hb⟩
  have B4 := Lib.hid (B3.out.step hb z3)
  have z4 := B4.out.size
  have H_l_4 := Lib.hid (H_l_3.out.grown hb (Nat.le_refl _))
  have H_q1_4 := Lib.hid hnew
  clear hb B3 z3 hnew H_l_3
  go_wp2_with fail
  refine (put_any q1 (put l a v) b u _ H_q1_4.out HR1.out (by omega)).mono ?_; rintro e w5 ⟨x, rfl, hnew, hb⟩
  have B5 := Lib.hid (B4.out.step hb z4)
  have z5 := B5.out.size
  have H_l_5 := Lib.hid (H_l_4.out.grown hb (Nat.le_refl _))
  have H_q1_5 := Lib.hid (H_q1_4.out.grown hb (Nat.le_refl _))
  have H_x_5 := Lib.hid hnew
  clear hb B4 z4 hnew H_l_4 H_q1_4
  clear H_q1_5
  go_wp2_with fail
  refine (put_any _ l b u _ H_l_5.out HRL.out (by omega)).mono ?_; rintro e w6 ⟨q2, rfl, hnew, hb⟩
  have B6 := Lib.hid (B5.out.step hb z5)
  have z6 := B6.out.size
  have H_l_6 := Lib.hid (H_l_5.out.grown hb (Nat.le_refl _))
  have H_x_6 := Lib.hid (H_x_5.out.grown hb (Nat.le_refl _))
  have H_q2_6 := Lib.hid hnew
  clear hb B5 z5 hnew H_l_5 H_x_5
  go_wp2_with fail
  refine (put_any q2 (put l b u) a v _ H_q2_6.out HR2.out (by omega)).mono ?_; rintro e w7 ⟨y, rfl, hnew, hb⟩
  have B7 := Lib.hid (B6.out.step hb z6)
  have z7 := B7.out.size
  have H_l_7 := Lib.hid (H_l_6.out.grown hb (Nat.le_refl _))
  have H_x_7 := Lib.hid (H_x_6.out.grown hb (Nat.le_refl _))
  have H_q2_7 := Lib.hid (H_q2_6.out.grown hb (Nat.le_refl _))
  have H_y_7 := Lib.hid hnew
  clear hb B6 z6 hnew H_l_6 H_x_6 H_q2_6
  clear H_q2_7
  clear H_x_7 H_y_7
  go_wp2_with fail
  refine (get_some H_l_7.out HX.out).mono ?_; rintro e w8 ⟨rfl, hb⟩
  have B8 := Lib.hid (B7.out.step hb z7)
  have z8 := B8.out.size
  have H_l_8 := Lib.hid (H_l_7.out.grown hb (Nat.le_refl _))
  clear hb B7 z7 H_l_7
  go_wp2_with fail
  refine (put_any _ l a v _ H_l_8.out HRL.out (by omega)).mono ?_; rintro e w9 ⟨q4, rfl, hnew, hb⟩
  have B9 := Lib.hid (B8.out.step hb z8)
  have z9 := B9.out.size
  have H_l_9 := Lib.hid (H_l_8.out.grown hb (Nat.le_refl _))
  have H_q4_9 := Lib.hid hnew
  clear hb B8 z8 hnew H_l_8
  go_wp2_with fail
  refine (drop_any q4 (put l a v) a _ H_q4_9.out HR1.out (by omega)).mono ?_; rintro e w10 ⟨z, rfl, hnew, hb⟩
  have B10 := Lib.hid (B9.out.step hb z9)
  have z10 := B10.out.size
  have H_l_10 := Lib.hid (H_l_9.out.grown hb (Nat.le_refl _))
  have H_q4_10 := Lib.hid (H_q4_9.out.grown hb (Nat.le_refl _))
  rw [HDP.out] at hnew
  have H_z_10 := Lib.hid hnew
  clear hb B9 z9 hnew H_l_9 H_q4_9
  clear H_q4_10
  go_wp2_with fail
  refine (put_any _ l a v _ H_l_10.out HRL.out (by omega)).mono ?_; rintro e w11 ⟨q6, rfl, hnew, hb⟩
  have B11 := Lib.hid (B10.out.step hb z10)
  have z11 := B11.out.size
  have H_l_11 := Lib.hid (H_l_10.out.grown hb (Nat.le_refl _))
  have H_z_11 := Lib.hid (H_z_10.out.grown hb (Nat.le_refl _))
  obtain ⟨pa, pc, rfl⟩ := hnew.form
  rw [HL.out]
  have H_q6_11 := Lib.hid hnew
  clear hb B10 z10 hnew H_l_10 H_z_10
  clear H_q6_11
  go_wp2_with fail
  refine (drop_any _ l a _ H_l_11.out HRL.out (by omega)).mono ?_; rintro e w12 ⟨q7, rfl, hnew, hb⟩
  have B12 := Lib.hid (B11.out.step hb z11)
  have z12 := B12.out.size
  have H_l_12 := Lib.hid (H_l_11.out.grown hb (Nat.le_refl _))
  have H_z_12 := Lib.hid (H_z_11.out.grown hb (Nat.le_refl _))
  have H_q7_12 := Lib.hid hnew
  clear hb B11 z11 hnew H_l_11 H_z_11
  go_wp2_with fail
  refine (asPairs_any z (drop l a) _ H_z_12.out (by omega)).mono ?_; rintro e w13 ⟨q8, rfl, hnew, hb⟩
  have B13 := Lib.hid (B12.out.step hb z12)
  have z13 := B13.out.size
  have H_l_13 := Lib.hid (H_l_12.out.grown hb (Nat.le_refl _))
  have H_z_13 := Lib.hid (H_z_12.out.grown hb (Nat.le_refl _))
  have H_q7_13 := Lib.hid (H_q7_12.out.grown hb (Nat.le_refl _))
  have H_q8_13 := Lib.hid hnew
  clear hb B12 z12 hnew H_l_12 H_z_12 H_q7_12
  go_wp2_with fail
  refine (same_any q7 q8 (drop l a) _ H_q7_13.out H_q8_13.out).mono ?_; rintro e w14 ⟨rfl, hb⟩
  have B14 := Lib.hid (B13.out.step hb z13)
  have z14 := B14.out.size
  have H_l_14 := Lib.hid (H_l_13.out.grown hb (Nat.le_refl _))
  have H_z_14 := Lib.hid (H_z_13.out.grown hb (Nat.le_refl _))
  have H_q7_14 := Lib.hid (H_q7_13.out.grown hb (Nat.le_refl _))
  have H_q8_14 := Lib.hid (H_q8_13.out.grown hb (Nat.le_refl _))
  clear hb B13 z13 H_l_13 H_z_13 H_q7_13 H_q8_13
  go_wp2_with fail
  go_ret
  exact ⟨rfl, B14.out⟩

theorem puts_ok (v0 : Value) (l : Pairs) (a b v u : ByteArray) (w : World) (h0 : Holds w v0 l) (hz : Small l) (hsa : a.size ≤ 140737488351232) (hsb : b.size ≤ 140737488351232) (hsv : v.size ≤ 140737488351232) (hsu : u.size ≤ 140737488351232) :
    Calls Try.prog 6 #[v0, .string a, .string b, .string v, .string u] w fun e w' => e = .returned (.bool true) ∧ Below w.heap.size w w' := by
  by_cases hf : weight l < 3000
  · by_cases hr : Rise l
    · by_cases hl : a.size + b.size + v.size + u.size ≤ 500
      · cases hg : get l a with
        | none =>
          by_cases hab : a = b
          · exact puts_all10 v0 l a b v u w h0 hz hf hr hl hab hg
          · exact puts_all00 v0 l a b v u w h0 hz hf hr hl hab hg
        | some x =>
          have hth : (get l a).isSome = true := by rw [hg]; rfl
          by_cases hab : a = b
          · exact puts_all11 v0 l a b v u w h0 hz hf hr hl hab hth
          · exact puts_all01 v0 l a b v u w h0 hz hf hr hl hab hth
      · exact puts_long v0 l a b v u w h0 hz hsa hsb hsv hsu hf hr (by omega)
    · exact puts_right v0 l a b v u w h0 hz hf hr
  · exact puts_few v0 l a b v u w h0 hz hf

set_option maxRecDepth 100000 in
theorem puts_lifted (os : Os) (started : os.Started) (H : Type) (enc : TypeId × Value → H) :
    ReturnsInHanded {} Try.checked os 6 .any (Rows.varsPutsSpec.pre6 enc Try.prog Try.f6 Rows.varsPutsRow.domain false) (Rows.varsPutsSpec.post enc Try.prog Try.f6 false true false false) := by
  refine returnsInHanded_of_change_sized (C := Try.checked) own started (by kernel_rfl) Try.func6
    (ChangeSpec.witness6 (enc := enc) (C := Try.checked) false ⟨#[], #[.slice none 0 0, .string { data := #[] }, .string { data := #[] }, .string { data := #[] }, .string { data := #[] }], []⟩ 8 (by kernel_rfl) (by kernel_rfl) (by kernel_rfl) (by kernel_rfl)) ?_
  intro W base args ds gs before hval0 hW _ hsz0 _
  have hsz : (DataW.weightsEach Try.prog (Try.f6.params.toList ++ Rows.varsPutsSpec.plain.varTypes Try.prog) (ds ++ gs)).all (· ≤ reachBytes) = true := hsz0
  clear hsz0
  have hval : ∀ (j : Nat) t v, Try.f6.params[j]? = some t → args[j]? = some v → Value.okWide Try.prog W .any base t v := hval0
  have hW' := hW
  obtain ⟨p, q, hA0, hV, rfl, _, _⟩ := hW
  have hA : DataW.TrodAll enc Try.prog W 0 (fun _ => true) true Try.f6.params.toList args.toList ds p := hA0
  rw [Try.params6] at hA hval hsz
  obtain ⟨v0, v1, v2, v3, v4, d0, d1, d2, d3, d4, p0, p1, p2, p3, p4, rfl, rfl, rfl, h0, h1, h2, h3, h4⟩ := trodAll_five hA
  obtain ⟨rfl, rfl⟩ := trodVars_none hV
  obtain ⟨a0, len0, cap0, rfl⟩ := okWide_slice Try.underlying22 (hval 0 22 v0 rfl rfl)
  obtain ⟨gl, hg0, hw0⟩ := open_pairs h0
  have hz0 : Small gl := fun q hq => ⟨of_decide_eq_true (List.all_eq_true.1 hsz _ (DataW.weights_mem_each (j := 0) (t := 22) rfl rfl _ (hw0 q hq).1)), of_decide_eq_true (List.all_eq_true.1 hsz _ (DataW.weights_mem_each (j := 0) (t := 22) rfl rfl _ (hw0 q hq).2))⟩
  obtain ⟨a, rfl, rfl, rfl, hl_a⟩ := Go.ChangeMaps.open_string Try.underlying9 (hval 1 9 v1 rfl rfl) h1
  have hz_a : a.size ≤ 140737488351232 := by have := sized_string hsz (j := 1) (t := 9) rfl rfl; rw [size_list] at this; exact this
  obtain ⟨b, rfl, rfl, rfl, hl_b⟩ := Go.ChangeMaps.open_string Try.underlying9 (hval 2 9 v2 rfl rfl) h2
  have hz_b : b.size ≤ 140737488351232 := by have := sized_string hsz (j := 2) (t := 9) rfl rfl; rw [size_list] at this; exact this
  obtain ⟨v, rfl, rfl, rfl, hl_v⟩ := Go.ChangeMaps.open_string Try.underlying9 (hval 3 9 v3 rfl rfl) h3
  have hz_v : v.size ≤ 140737488351232 := by have := sized_string hsz (j := 3) (t := 9) rfl rfl; rw [size_list] at this; exact this
  obtain ⟨u, rfl, rfl, rfl, hl_u⟩ := Go.ChangeMaps.open_string Try.underlying9 (hval 4 9 v4 rfl rfl) h4
  have hz_u : u.size ≤ 140737488351232 := by have := sized_string hsz (j := 4) (t := 9) rfl rfl; rw [size_list] at this; exact this
  refine (puts_ok _ gl a b v u W hg0 hz0 hz_a hz_b hz_v hz_u).mono fun e W' ⟨he, hb⟩ => ?_
  subst he
  exact ⟨_, rfl, law_shut laidOut (by kernel_rfl) (by kernel_rfl) Try.underlying4 rfl hW' rfl hb⟩

theorem puts_holds : Rows.VarsPutsSaid :=
  OpenClaim.holds_of_wide 6 Try.f6 rfl rfl rfl rfl rfl rfl rfl ⟨rfl, rfl, rfl, rfl, rfl⟩ rfl rfl rfl rfl rfl (by kernel_rfl) Try.func6 (by kernel_rfl)
    (of_decide_eq_true (by kernel_rfl)) (by unfold Func.isWrapper; rw [if_neg (of_decide_eq_false (by kernel_rfl))]; exact ⟨rfl, rfl⟩)
    (fun os started H enc _ => puts_lifted os started H enc)
end Go.Proofs.Ytjckfdpkcaloiaa
