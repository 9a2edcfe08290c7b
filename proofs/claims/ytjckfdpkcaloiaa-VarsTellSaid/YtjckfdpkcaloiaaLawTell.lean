/- Any two rows, a name, a value: VarsTell answers true, and leaves what was there as it was. -/
import Derived.Test.YtjckfdpkcaloiaaLawPuts
namespace Go.Proofs.Ytjckfdpkcaloiaa
open Go.RowKit Go.Lib Go.WideShapes Go.ChangeShapes Go.ChangeAt Go.Joins

theorem rget_some {v : Value} {g : Pairs} {n x : ByteArray} {w : World} (h : Holds w v g) (e : get g n = some x) :
    Calls Try.prog 11 #[v, .string n] w fun e w' => e = .returned (.tuple #[.string x, .bool true]) ∧ Below w.heap.size w w' := by
  have := rget_any v g n w h; rw [e] at this; simpa [gotV, e] using this

theorem rget_nothing {v : Value} {g : Pairs} {n : ByteArray} {w : World} (h : Holds w v g) (e : get g n = none) :
    Calls Try.prog 11 #[v, .string n] w fun e w' => e = .returned (.tuple #[.string { data := #[] }, .bool false]) ∧ Below w.heap.size w w' := by
  have := rget_any v g n w h; rw [e] at this; simpa [gotV, e] using this

theorem rright_yes (v : Value) (g : Pairs) (w : World) (h : Holds w v g) (hr : Rise g) :
    Calls Try.prog 13 #[v] w fun e w' => e = .returned (.bool true) ∧ Below w.heap.size w w' := by
  have := rright_any v g w h; rwa [(right_iff g).2 hr] at this

theorem rright_no (v : Value) (g : Pairs) (w : World) (h : Holds w v g) (hr : ¬ Rise g) :
    Calls Try.prog 13 #[v] w fun e w' => e = .returned (.bool false) ∧ Below w.heap.size w w' := by
  have := rright_any v g w h
  rwa [show right g = false by cases h : right g with | false => rfl | true => exact absurd ((right_iff g).1 h) hr] at this

set_option maxRecDepth 100000 in
set_option maxHeartbeats 4000000 in
theorem tell_few00 (v0 v1 : Value) (l k : Pairs) (name v : ByteArray) (w : World) (h0 : Holds w v0 l) (h1 : Holds w v1 k) (hzl : Small l) (hzk : Small k) (hfl : ¬ weight l < 3000) (hfk : ¬ weight k < 3000) :
    Calls Try.prog 3 #[v0, v1, .string name, .string v] w fun e w' => e = .returned (.bool true) ∧ Below w.heap.size w w' := by
  have H_l_0 := Lib.hid h0; have H_k_0 := Lib.hid h1
  clear h0 h1
  go_enter Try.func3, Try.ntmps3
  have B0 := Lib.hid (Below.refl w.heap.size w)
  have z0 : w.heap.size ≤ w.heap.size := Nat.le_refl _
  go_wp2_with fail
  refine (shown_true _).mono ?_; rintro e w1 ⟨rfl, hb⟩
  have B1 := Lib.hid (B0.out.step hb z0)
  have z1 := B1.out.size
  have H_l_1 := Lib.hid (H_l_0.out.grown hb (Nat.le_refl _))
  have H_k_1 := Lib.hid (H_k_0.out.grown hb (Nat.le_refl _))
  clear hb B0 z0 H_l_0 H_k_0
  go_wp2_with fail
  refine (few_no v0 l _ H_l_1.out hzl hfl).mono ?_; rintro e w2 ⟨rfl, hb⟩
  have B2 := Lib.hid (B1.out.step hb z1)
  have z2 := B2.out.size
  have H_l_2 := Lib.hid (H_l_1.out.grown hb (Nat.le_refl _))
  have H_k_2 := Lib.hid (H_k_1.out.grown hb (Nat.le_refl _))
  clear hb B1 z1 H_l_1 H_k_1
  go_wp2_with fail
  refine (few_no v1 k _ H_k_2.out hzk hfk).mono ?_; rintro e w3 ⟨rfl, hb⟩
  have B3 := Lib.hid (B2.out.step hb z2)
  have z3 := B3.out.size
  have H_l_3 := Lib.hid (H_l_2.out.grown hb (Nat.le_refl _))
  have H_k_3 := Lib.hid (H_k_2.out.grown hb (Nat.le_refl _))
  clear hb B2 z2 H_l_2 H_k_2
  go_wp2_with fail
  go_ret
  exact ⟨rfl, B3.out⟩

set_option maxRecDepth 100000 in
set_option maxHeartbeats 4000000 in
theorem tell_few01 (v0 v1 : Value) (l k : Pairs) (name v : ByteArray) (w : World) (h0 : Holds w v0 l) (h1 : Holds w v1 k) (hzl : Small l) (hzk : Small k) (hfl : ¬ weight l < 3000) (hfk : weight k < 3000) :
    Calls Try.prog 3 #[v0, v1, .string name, .string v] w fun e w' => e = .returned (.bool true) ∧ Below w.heap.size w w' := by
  have H_l_0 := Lib.hid h0; have H_k_0 := Lib.hid h1
  clear h0 h1
  go_enter Try.func3, Try.ntmps3
  have B0 := Lib.hid (Below.refl w.heap.size w)
  have z0 : w.heap.size ≤ w.heap.size := Nat.le_refl _
  go_wp2_with fail
  refine (shown_true _).mono ?_; rintro e w1 ⟨rfl, hb⟩
  have B1 := Lib.hid (B0.out.step hb z0)
  have z1 := B1.out.size
  have H_l_1 := Lib.hid (H_l_0.out.grown hb (Nat.le_refl _))
  have H_k_1 := Lib.hid (H_k_0.out.grown hb (Nat.le_refl _))
  clear hb B0 z0 H_l_0 H_k_0
  go_wp2_with fail
  refine (few_no v0 l _ H_l_1.out hzl hfl).mono ?_; rintro e w2 ⟨rfl, hb⟩
  have B2 := Lib.hid (B1.out.step hb z1)
  have z2 := B2.out.size
  have H_l_2 := Lib.hid (H_l_1.out.grown hb (Nat.le_refl _))
  have H_k_2 := Lib.hid (H_k_1.out.grown hb (Nat.le_refl _))
  clear hb B1 z1 H_l_1 H_k_1
  go_wp2_with fail
  refine (few_yes v1 k _ H_k_2.out hzk hfk).mono ?_; rintro e w3 ⟨rfl, hb⟩
  have B3 := Lib.hid (B2.out.step hb z2)
  have z3 := B3.out.size
  have H_l_3 := Lib.hid (H_l_2.out.grown hb (Nat.le_refl _))
  have H_k_3 := Lib.hid (H_k_2.out.grown hb (Nat.le_refl _))
  clear hb B2 z2 H_l_2 H_k_2
  go_wp2_with fail
  go_ret
  exact ⟨rfl, B3.out⟩

set_option maxRecDepth 100000 in
set_option maxHeartbeats 4000000 in
theorem tell_few10 (v0 v1 : Value) (l k : Pairs) (name v : ByteArray) (w : World) (h0 : Holds w v0 l) (h1 : Holds w v1 k) (hzl : Small l) (hzk : Small k) (hfl : weight l < 3000) (hfk : ¬ weight k < 3000) :
    Calls Try.prog 3 #[v0, v1, .string name, .string v] w fun e w' => e = .returned (.bool true) ∧ Below w.heap.size w w' := by
  have H_l_0 := Lib.hid h0; have H_k_0 := Lib.hid h1
  clear h0 h1
  go_enter Try.func3, Try.ntmps3
  have B0 := Lib.hid (Below.refl w.heap.size w)
  have z0 : w.heap.size ≤ w.heap.size := Nat.le_refl _
  go_wp2_with fail
  refine (shown_true _).mono ?_; rintro e w1 ⟨rfl, hb⟩
  have B1 := Lib.hid (B0.out.step hb z0)
  have z1 := B1.out.size
  have H_l_1 := Lib.hid (H_l_0.out.grown hb (Nat.le_refl _))
  have H_k_1 := Lib.hid (H_k_0.out.grown hb (Nat.le_refl _))
  clear hb B0 z0 H_l_0 H_k_0
  go_wp2_with fail
  refine (few_yes v0 l _ H_l_1.out hzl hfl).mono ?_; rintro e w2 ⟨rfl, hb⟩
  have B2 := Lib.hid (B1.out.step hb z1)
  have z2 := B2.out.size
  have H_l_2 := Lib.hid (H_l_1.out.grown hb (Nat.le_refl _))
  have H_k_2 := Lib.hid (H_k_1.out.grown hb (Nat.le_refl _))
  clear hb B1 z1 H_l_1 H_k_1
  go_wp2_with fail
  refine (few_no v1 k _ H_k_2.out hzk hfk).mono ?_; rintro e w3 ⟨rfl, hb⟩
  have B3 := Lib.hid (B2.out.step hb z2)
  have z3 := B3.out.size
  have H_l_3 := Lib.hid (H_l_2.out.grown hb (Nat.le_refl _))
  have H_k_3 := Lib.hid (H_k_2.out.grown hb (Nat.le_refl _))
  clear hb B2 z2 H_l_2 H_k_2
  go_wp2_with fail
  go_ret
  exact ⟨rfl, B3.out⟩

set_option maxRecDepth 100000 in
set_option maxHeartbeats 4000000 in
theorem tell_all00 (v0 v1 : Value) (l k : Pairs) (name v : ByteArray) (w : World) (h0 : Holds w v0 l) (h1 : Holds w v1 k) (hzl : Small l) (hzk : Small k) (hfl : weight l < 3000) (hfk : weight k < 3000) (hG : get l name = none) (hrl : ¬ Rise l) :
    Calls Try.prog 3 #[v0, v1, .string name, .string v] w fun e w' => e = .returned (.bool true) ∧ Below w.heap.size w w' := by
  have la := weight_len l; have lk := weight_len k; have p1 := put_length l name v
  have d1 : (drop l name).length ≤ l.length := List.length_filter_le _ _
  have HG := Lib.hid hG
  clear hG
  have HRL := Lib.hid hrl; clear hrl
  have H_l_0 := Lib.hid h0; have H_k_0 := Lib.hid h1
  clear h0 h1
  go_enter Try.func3, Try.ntmps3
  have B0 := Lib.hid (Below.refl w.heap.size w)
  have z0 : w.heap.size ≤ w.heap.size := Nat.le_refl _
  go_wp2_with fail
  refine (shown_true _).mono ?_; rintro e w1 ⟨rfl, hb⟩
  have B1 := Lib.hid (B0.out.step hb z0)
  have z1 := B1.out.size
  have H_l_1 := Lib.hid (H_l_0.out.grown hb (Nat.le_refl _))
  have H_k_1 := Lib.hid (H_k_0.out.grown hb (Nat.le_refl _))
  clear hb B0 z0 H_l_0 H_k_0
  go_wp2_with fail
  refine (few_yes v0 l _ H_l_1.out hzl hfl).mono ?_; rintro e w2 ⟨rfl, hb⟩
  have B2 := Lib.hid (B1.out.step hb z1)
  have z2 := B2.out.size
  have H_l_2 := Lib.hid (H_l_1.out.grown hb (Nat.le_refl _))
  have H_k_2 := Lib.hid (H_k_1.out.grown hb (Nat.le_refl _))
  clear hb B1 z1 H_l_1 H_k_1
  go_wp2_with fail
  refine (few_yes v1 k _ H_k_2.out hzk hfk).mono ?_; rintro e w3 ⟨rfl, hb⟩
  have B3 := Lib.hid (B2.out.step hb z2)
  have z3 := B3.out.size
  have H_l_3 := Lib.hid (H_l_2.out.grown hb (Nat.le_refl _))
  have H_k_3 := Lib.hid (H_k_2.out.grown hb (Nat.le_refl _))
  clear hb B2 z2 H_l_2 H_k_2
  go_wp2_with fail
  refine (asPairs_any v0 l _ H_l_3.out (by omega)).mono ?_; rintro e w4 ⟨a, rfl, hnew, hb⟩
  have B4 := Lib.hid (B3.out.step hb z3)
  have z4 := B4.out.size
  have H_l_4 := Lib.hid (H_l_3.out.grown hb (Nat.le_refl _))
  have H_k_4 := Lib.hid (H_k_3.out.grown hb (Nat.le_refl _))
  have H_a_4 := Lib.hid hnew
  clear hb B3 z3 hnew H_l_3 H_k_3
  go_wp2_with fail
  refine (get_nothing H_l_4.out HG.out).mono ?_; rintro e w5 ⟨rfl, hb⟩
  have B5 := Lib.hid (B4.out.step hb z4)
  have z5 := B5.out.size
  have H_l_5 := Lib.hid (H_l_4.out.grown hb (Nat.le_refl _))
  have H_k_5 := Lib.hid (H_k_4.out.grown hb (Nat.le_refl _))
  have H_a_5 := Lib.hid (H_a_4.out.grown hb (Nat.le_refl _))
  clear hb B4 z4 H_l_4 H_k_4 H_a_4
  go_wp2_with fail
  refine (rget_nothing H_a_5.out HG.out).mono ?_; rintro e w6 ⟨rfl, hb⟩
  have B6 := Lib.hid (B5.out.step hb z5)
  have z6 := B6.out.size
  have H_l_6 := Lib.hid (H_l_5.out.grown hb (Nat.le_refl _))
  have H_k_6 := Lib.hid (H_k_5.out.grown hb (Nat.le_refl _))
  have H_a_6 := Lib.hid (H_a_5.out.grown hb (Nat.le_refl _))
  clear hb B5 z5 H_l_5 H_k_5 H_a_5
  go_wp2_with fail
  refine (right_no v0 l _ H_l_6.out HRL.out).mono ?_; rintro e w7 ⟨rfl, hb⟩
  have B7 := Lib.hid (B6.out.step hb z6)
  have z7 := B7.out.size
  have H_l_7 := Lib.hid (H_l_6.out.grown hb (Nat.le_refl _))
  have H_k_7 := Lib.hid (H_k_6.out.grown hb (Nat.le_refl _))
  have H_a_7 := Lib.hid (H_a_6.out.grown hb (Nat.le_refl _))
  clear hb B6 z6 H_l_6 H_k_6 H_a_6
  go_wp2_with fail
  refine (rright_no a l _ H_a_7.out HRL.out).mono ?_; rintro e w8 ⟨rfl, hb⟩
  have B8 := Lib.hid (B7.out.step hb z7)
  have z8 := B8.out.size
  have H_l_8 := Lib.hid (H_l_7.out.grown hb (Nat.le_refl _))
  have H_k_8 := Lib.hid (H_k_7.out.grown hb (Nat.le_refl _))
  have H_a_8 := Lib.hid (H_a_7.out.grown hb (Nat.le_refl _))
  clear hb B7 z7 H_l_7 H_k_7 H_a_7
  go_wp2_with fail
  refine (right_no v0 l _ H_l_8.out HRL.out).mono ?_; rintro e w9 ⟨rfl, hb⟩
  have B9 := Lib.hid (B8.out.step hb z8)
  have z9 := B9.out.size
  have H_l_9 := Lib.hid (H_l_8.out.grown hb (Nat.le_refl _))
  have H_k_9 := Lib.hid (H_k_8.out.grown hb (Nat.le_refl _))
  have H_a_9 := Lib.hid (H_a_8.out.grown hb (Nat.le_refl _))
  clear hb B8 z8 H_l_8 H_k_8 H_a_8
  go_wp2_with fail
  go_ret
  exact ⟨rfl, B9.out⟩

set_option maxRecDepth 100000 in
set_option maxHeartbeats 4000000 in
theorem tell_all01 (v0 v1 : Value) (l k : Pairs) (name v : ByteArray) (w : World) (h0 : Holds w v0 l) (h1 : Holds w v1 k) (hzl : Small l) (hzk : Small k) (hfl : weight l < 3000) (hfk : weight k < 3000) (hG : get l name = none) (hrl : Rise l) (hrk : ¬ Rise k) :
    Calls Try.prog 3 #[v0, v1, .string name, .string v] w fun e w' => e = .returned (.bool true) ∧ Below w.heap.size w w' := by
  have la := weight_len l; have lk := weight_len k; have p1 := put_length l name v
  have d1 : (drop l name).length ≤ l.length := List.length_filter_le _ _
  have HG := Lib.hid hG
  clear hG
  have HRL := Lib.hid hrl; have HRK := Lib.hid hrk; clear hrl hrk
  have H_l_0 := Lib.hid h0; have H_k_0 := Lib.hid h1
  clear h0 h1
  go_enter Try.func3, Try.ntmps3
  have B0 := Lib.hid (Below.refl w.heap.size w)
  have z0 : w.heap.size ≤ w.heap.size := Nat.le_refl _
  go_wp2_with fail
  refine (shown_true _).mono ?_; rintro e w1 ⟨rfl, hb⟩
  have B1 := Lib.hid (B0.out.step hb z0)
  have z1 := B1.out.size
  have H_l_1 := Lib.hid (H_l_0.out.grown hb (Nat.le_refl _))
  have H_k_1 := Lib.hid (H_k_0.out.grown hb (Nat.le_refl _))
  clear hb B0 z0 H_l_0 H_k_0
  go_wp2_with fail
  refine (few_yes v0 l _ H_l_1.out hzl hfl).mono ?_; rintro e w2 ⟨rfl, hb⟩
  have B2 := Lib.hid (B1.out.step hb z1)
  have z2 := B2.out.size
  have H_l_2 := Lib.hid (H_l_1.out.grown hb (Nat.le_refl _))
  have H_k_2 := Lib.hid (H_k_1.out.grown hb (Nat.le_refl _))
  clear hb B1 z1 H_l_1 H_k_1
  go_wp2_with fail
  refine (few_yes v1 k _ H_k_2.out hzk hfk).mono ?_; rintro e w3 ⟨rfl, hb⟩
  have B3 := Lib.hid (B2.out.step hb z2)
  have z3 := B3.out.size
  have H_l_3 := Lib.hid (H_l_2.out.grown hb (Nat.le_refl _))
  have H_k_3 := Lib.hid (H_k_2.out.grown hb (Nat.le_refl _))
  clear hb B2 z2 H_l_2 H_k_2
  go_wp2_with fail
  refine (asPairs_any v0 l _ H_l_3.out (by omega)).mono ?_; rintro e w4 ⟨a, rfl, hnew, hb⟩
  have B4 := Lib.hid (B3.out.step hb z3)
  have z4 := B4.out.size
  have H_l_4 := Lib.hid (H_l_3.out.grown hb (Nat.le_refl _))
  have H_k_4 := Lib.hid (H_k_3.out.grown hb (Nat.le_refl _))
  have H_a_4 := Lib.hid hnew
  clear hb B3 z3 hnew H_l_3 H_k_3
  go_wp2_with fail
  refine (get_nothing H_l_4.out HG.out).mono ?_; rintro e w5 ⟨rfl, hb⟩
  have B5 := Lib.hid (B4.out.step hb z4)
  have z5 := B5.out.size
  have H_l_5 := Lib.hid (H_l_4.out.grown hb (Nat.le_refl _))
  have H_k_5 := Lib.hid (H_k_4.out.grown hb (Nat.le_refl _))
  have H_a_5 := Lib.hid (H_a_4.out.grown hb (Nat.le_refl _))
  clear hb B4 z4 H_l_4 H_k_4 H_a_4
  go_wp2_with fail
  refine (rget_nothing H_a_5.out HG.out).mono ?_; rintro e w6 ⟨rfl, hb⟩
  have B6 := Lib.hid (B5.out.step hb z5)
  have z6 := B6.out.size
  have H_l_6 := Lib.hid (H_l_5.out.grown hb (Nat.le_refl _))
  have H_k_6 := Lib.hid (H_k_5.out.grown hb (Nat.le_refl _))
  have H_a_6 := Lib.hid (H_a_5.out.grown hb (Nat.le_refl _))
  clear hb B5 z5 H_l_5 H_k_5 H_a_5
  go_wp2_with fail
  refine (right_yes v0 l _ H_l_6.out HRL.out).mono ?_; rintro e w7 ⟨rfl, hb⟩
  have B7 := Lib.hid (B6.out.step hb z6)
  have z7 := B7.out.size
  have H_l_7 := Lib.hid (H_l_6.out.grown hb (Nat.le_refl _))
  have H_k_7 := Lib.hid (H_k_6.out.grown hb (Nat.le_refl _))
  have H_a_7 := Lib.hid (H_a_6.out.grown hb (Nat.le_refl _))
  clear hb B6 z6 H_l_6 H_k_6 H_a_6
  go_wp2_with fail
  refine (rright_yes a l _ H_a_7.out HRL.out).mono ?_; rintro e w8 ⟨rfl, hb⟩
  have B8 := Lib.hid (B7.out.step hb z7)
  have z8 := B8.out.size
  have H_l_8 := Lib.hid (H_l_7.out.grown hb (Nat.le_refl _))
  have H_k_8 := Lib.hid (H_k_7.out.grown hb (Nat.le_refl _))
  have H_a_8 := Lib.hid (H_a_7.out.grown hb (Nat.le_refl _))
  clear hb B7 z7 H_l_7 H_k_7 H_a_7
  go_wp2_with fail
  refine (right_yes v0 l _ H_l_8.out HRL.out).mono ?_; rintro e w9 ⟨rfl, hb⟩
  have B9 := Lib.hid (B8.out.step hb z8)
  have z9 := B9.out.size
  have H_l_9 := Lib.hid (H_l_8.out.grown hb (Nat.le_refl _))
  have H_k_9 := Lib.hid (H_k_8.out.grown hb (Nat.le_refl _))
  have H_a_9 := Lib.hid (H_a_8.out.grown hb (Nat.le_refl _))
  clear hb B8 z8 H_l_8 H_k_8 H_a_8
  go_wp2_with fail
  refine (right_no v1 k _ H_k_9.out HRK.out).mono ?_; rintro e w10 ⟨rfl, hb⟩
  have B10 := Lib.hid (B9.out.step hb z9)
  have z10 := B10.out.size
  have H_l_10 := Lib.hid (H_l_9.out.grown hb (Nat.le_refl _))
  have H_k_10 := Lib.hid (H_k_9.out.grown hb (Nat.le_refl _))
  have H_a_10 := Lib.hid (H_a_9.out.grown hb (Nat.le_refl _))
  clear hb B9 z9 H_l_9 H_k_9 H_a_9
  go_wp2_with fail
  go_ret
  exact ⟨rfl, B10.out⟩

set_option maxRecDepth 100000 in
set_option maxHeartbeats 4000000 in
theorem tell_all02 (v0 v1 : Value) (l k : Pairs) (name v : ByteArray) (w : World) (h0 : Holds w v0 l) (h1 : Holds w v1 k) (hzl : Small l) (hzk : Small k) (hfl : weight l < 3000) (hfk : weight k < 3000) (hG : get l name = none) (hrl : Rise l) (hrk : Rise k) :
    Calls Try.prog 3 #[v0, v1, .string name, .string v] w fun e w' => e = .returned (.bool true) ∧ Below w.heap.size w w' := by
  have la := weight_len l; have lk := weight_len k; have p1 := put_length l name v
  have d1 : (drop l name).length ≤ l.length := List.length_filter_le _ _
  have HG := Lib.hid hG
  clear hG
  have HRP := Lib.hid (rput_put hrl name v); have HMO := Lib.hid (merge_over hrl hrk)
  have HRL := Lib.hid hrl; have HRK := Lib.hid hrk; clear hrl hrk
  have H_l_0 := Lib.hid h0; have H_k_0 := Lib.hid h1
  clear h0 h1
  go_enter Try.func3, Try.ntmps3
  have B0 := Lib.hid (Below.refl w.heap.size w)
  have z0 : w.heap.size ≤ w.heap.size := Nat.le_refl _
  go_wp2_with fail
  refine (shown_true _).mono ?_; rintro e w1 ⟨rfl, hb⟩
  have B1 := Lib.hid (B0.out.step hb z0)
  have z1 := B1.out.size
  have H_l_1 := Lib.hid (H_l_0.out.grown hb (Nat.le_refl _))
  have H_k_1 := Lib.hid (H_k_0.out.grown hb (Nat.le_refl _))
  clear hb B0 z0 H_l_0 H_k_0
  go_wp2_with fail
  refine (few_yes v0 l _ H_l_1.out hzl hfl).mono ?_; rintro e w2 ⟨rfl, hb⟩
  have B2 := Lib.hid (B1.out.step hb z1)
  have z2 := B2.out.size
  have H_l_2 := Lib.hid (H_l_1.out.grown hb (Nat.le_refl _))
  have H_k_2 := Lib.hid (H_k_1.out.grown hb (Nat.le_refl _))
  clear hb B1 z1 H_l_1 H_k_1
  go_wp2_with fail
  refine (few_yes v1 k _ H_k_2.out hzk hfk).mono ?_; rintro e w3 ⟨rfl, hb⟩
  have B3 := Lib.hid (B2.out.step hb z2)
  have z3 := B3.out.size
  have H_l_3 := Lib.hid (H_l_2.out.grown hb (Nat.le_refl _))
  have H_k_3 := Lib.hid (H_k_2.out.grown hb (Nat.le_refl _))
  clear hb B2 z2 H_l_2 H_k_2
  go_wp2_with fail
  refine (asPairs_any v0 l _ H_l_3.out (by omega)).mono ?_; rintro e w4 ⟨a, rfl, hnew, hb⟩
  have B4 := Lib.hid (B3.out.step hb z3)
  have z4 := B4.out.size
  have H_l_4 := Lib.hid (H_l_3.out.grown hb (Nat.le_refl _))
  have H_k_4 := Lib.hid (H_k_3.out.grown hb (Nat.le_refl _))
  have H_a_4 := Lib.hid hnew
  clear hb B3 z3 hnew H_l_3 H_k_3
  go_wp2_with fail
  refine (get_nothing H_l_4.out HG.out).mono ?_; rintro e w5 ⟨rfl, hb⟩
  have B5 := Lib.hid (B4.out.step hb z4)
  have z5 := B5.out.size
  have H_l_5 := Lib.hid (H_l_4.out.grown hb (Nat.le_refl _))
  have H_k_5 := Lib.hid (H_k_4.out.grown hb (Nat.le_refl _))
  have H_a_5 := Lib.hid (H_a_4.out.grown hb (Nat.le_refl _))
  clear hb B4 z4 H_l_4 H_k_4 H_a_4
  go_wp2_with fail
  refine (rget_nothing H_a_5.out HG.out).mono ?_; rintro e w6 ⟨rfl, hb⟩
  have B6 := Lib.hid (B5.out.step hb z5)
  have z6 := B6.out.size
  have H_l_6 := Lib.hid (H_l_5.out.grown hb (Nat.le_refl _))
  have H_k_6 := Lib.hid (H_k_5.out.grown hb (Nat.le_refl _))
  have H_a_6 := Lib.hid (H_a_5.out.grown hb (Nat.le_refl _))
  clear hb B5 z5 H_l_5 H_k_5 H_a_5
  go_wp2_with fail
  refine (right_yes v0 l _ H_l_6.out HRL.out).mono ?_; rintro e w7 ⟨rfl, hb⟩
  have B7 := Lib.hid (B6.out.step hb z6)
  have z7 := B7.out.size
  have H_l_7 := Lib.hid (H_l_6.out.grown hb (Nat.le_refl _))
  have H_k_7 := Lib.hid (H_k_6.out.grown hb (Nat.le_refl _))
  have H_a_7 := Lib.hid (H_a_6.out.grown hb (Nat.le_refl _))
  clear hb B6 z6 H_l_6 H_k_6 H_a_6
  go_wp2_with fail
  refine (rright_yes a l _ H_a_7.out HRL.out).mono ?_; rintro e w8 ⟨rfl, hb⟩
  have B8 := Lib.hid (B7.out.step hb z7)
  have z8 := B8.out.size
  have H_l_8 := Lib.hid (H_l_7.out.grown hb (Nat.le_refl _))
  have H_k_8 := Lib.hid (H_k_7.out.grown hb (Nat.le_refl _))
  have H_a_8 := Lib.hid (H_a_7.out.grown hb (Nat.le_refl _))
  clear hb B7 z7 H_l_7 H_k_7 H_a_7
  go_wp2_with fail
  refine (right_yes v0 l _ H_l_8.out HRL.out).mono ?_; rintro e w9 ⟨rfl, hb⟩
  have B9 := Lib.hid (B8.out.step hb z8)
  have z9 := B9.out.size
  have H_l_9 := Lib.hid (H_l_8.out.grown hb (Nat.le_refl _))
  have H_k_9 := Lib.hid (H_k_8.out.grown hb (Nat.le_refl _))
  have H_a_9 := Lib.hid (H_a_8.out.grown hb (Nat.le_refl _))
  clear hb B8 z8 H_l_8 H_k_8 H_a_8
  go_wp2_with fail
  refine (right_yes v1 k _ H_k_9.out HRK.out).mono ?_; rintro e w10 ⟨rfl, hb⟩
  have B10 := Lib.hid (B9.out.step hb z9)
  have z10 := B10.out.size
  have H_l_10 := Lib.hid (H_l_9.out.grown hb (Nat.le_refl _))
  have H_k_10 := Lib.hid (H_k_9.out.grown hb (Nat.le_refl _))
  have H_a_10 := Lib.hid (H_a_9.out.grown hb (Nat.le_refl _))
  clear hb B9 z9 H_l_9 H_k_9 H_a_9
  go_wp2_with fail
  refine (put_any v0 l name v _ H_l_10.out HRL.out (by omega)).mono ?_; rintro e w11 ⟨p, rfl, hnew, hb⟩
  have B11 := Lib.hid (B10.out.step hb z10)
  have z11 := B11.out.size
  have H_l_11 := Lib.hid (H_l_10.out.grown hb (Nat.le_refl _))
  have H_k_11 := Lib.hid (H_k_10.out.grown hb (Nat.le_refl _))
  have H_a_11 := Lib.hid (H_a_10.out.grown hb (Nat.le_refl _))
  have H_p_11 := Lib.hid hnew
  clear hb B10 z10 hnew H_l_10 H_k_10 H_a_10
  go_wp2_with fail
  refine (rput_any a l name v _ H_a_11.out (by omega)).mono ?_; rintro e w12 ⟨rp, rfl, hnew, hb⟩
  have B12 := Lib.hid (B11.out.step hb z11)
  have z12 := B12.out.size
  have H_l_12 := Lib.hid (H_l_11.out.grown hb (Nat.le_refl _))
  have H_k_12 := Lib.hid (H_k_11.out.grown hb (Nat.le_refl _))
  have H_a_12 := Lib.hid (H_a_11.out.grown hb (Nat.le_refl _))
  have H_p_12 := Lib.hid (H_p_11.out.grown hb (Nat.le_refl _))
  rw [HRP.out] at hnew
  have H_rp_12 := Lib.hid hnew
  clear hb B11 z11 hnew H_l_11 H_k_11 H_a_11 H_p_11
  go_wp2_with fail
  refine (same_any p rp (put l name v) _ H_p_12.out H_rp_12.out).mono ?_; rintro e w13 ⟨rfl, hb⟩
  have B13 := Lib.hid (B12.out.step hb z12)
  have z13 := B13.out.size
  have H_l_13 := Lib.hid (H_l_12.out.grown hb (Nat.le_refl _))
  have H_k_13 := Lib.hid (H_k_12.out.grown hb (Nat.le_refl _))
  have H_a_13 := Lib.hid (H_a_12.out.grown hb (Nat.le_refl _))
  have H_p_13 := Lib.hid (H_p_12.out.grown hb (Nat.le_refl _))
  have H_rp_13 := Lib.hid (H_rp_12.out.grown hb (Nat.le_refl _))
  clear hb B12 z12 H_l_12 H_k_12 H_a_12 H_p_12 H_rp_12
  clear H_p_13 H_rp_13
  go_wp2_with fail
  refine (drop_any v0 l name _ H_l_13.out HRL.out (by omega)).mono ?_; rintro e w14 ⟨d, rfl, hnew, hb⟩
  have B14 := Lib.hid (B13.out.step hb z13)
  have z14 := B14.out.size
  have H_l_14 := Lib.hid (H_l_13.out.grown hb (Nat.le_refl _))
  have H_k_14 := Lib.hid (H_k_13.out.grown hb (Nat.le_refl _))
  have H_a_14 := Lib.hid (H_a_13.out.grown hb (Nat.le_refl _))
  have H_d_14 := Lib.hid hnew
  clear hb B13 z13 hnew H_l_13 H_k_13 H_a_13
  go_wp2_with fail
  refine (rdrop_any a l name _ H_a_14.out (by omega)).mono ?_; rintro e w15 ⟨rd, rfl, hnew, hb⟩
  have B15 := Lib.hid (B14.out.step hb z14)
  have z15 := B15.out.size
  have H_l_15 := Lib.hid (H_l_14.out.grown hb (Nat.le_refl _))
  have H_k_15 := Lib.hid (H_k_14.out.grown hb (Nat.le_refl _))
  have H_a_15 := Lib.hid (H_a_14.out.grown hb (Nat.le_refl _))
  have H_d_15 := Lib.hid (H_d_14.out.grown hb (Nat.le_refl _))
  have H_rd_15 := Lib.hid hnew
  clear hb B14 z14 hnew H_l_14 H_k_14 H_a_14 H_d_14
  go_wp2_with fail
  refine (same_any d rd (drop l name) _ H_d_15.out H_rd_15.out).mono ?_; rintro e w16 ⟨rfl, hb⟩
  have B16 := Lib.hid (B15.out.step hb z15)
  have z16 := B16.out.size
  have H_l_16 := Lib.hid (H_l_15.out.grown hb (Nat.le_refl _))
  have H_k_16 := Lib.hid (H_k_15.out.grown hb (Nat.le_refl _))
  have H_a_16 := Lib.hid (H_a_15.out.grown hb (Nat.le_refl _))
  have H_d_16 := Lib.hid (H_d_15.out.grown hb (Nat.le_refl _))
  have H_rd_16 := Lib.hid (H_rd_15.out.grown hb (Nat.le_refl _))
  clear hb B15 z15 H_l_15 H_k_15 H_a_15 H_d_15 H_rd_15
  clear H_d_16 H_rd_16
  go_wp2_with fail
  refine (over_any v0 v1 l k _ H_l_16.out H_k_16.out (by omega)).mono ?_; rintro e w17 ⟨o, rfl, hnew, hb⟩
  have B17 := Lib.hid (B16.out.step hb z16)
  have z17 := B17.out.size
  have H_l_17 := Lib.hid (H_l_16.out.grown hb (Nat.le_refl _))
  have H_k_17 := Lib.hid (H_k_16.out.grown hb (Nat.le_refl _))
  have H_a_17 := Lib.hid (H_a_16.out.grown hb (Nat.le_refl _))
  rw [HMO.out] at hnew
  have H_o_17 := Lib.hid hnew
  clear hb B16 z16 hnew H_l_16 H_k_16 H_a_16
  go_wp2_with fail
  refine (asPairs_any v1 k _ H_k_17.out (by omega)).mono ?_; rintro e w18 ⟨c, rfl, hnew, hb⟩
  have B18 := Lib.hid (B17.out.step hb z17)
  have z18 := B18.out.size
  have H_l_18 := Lib.hid (H_l_17.out.grown hb (Nat.le_refl _))
  have H_k_18 := Lib.hid (H_k_17.out.grown hb (Nat.le_refl _))
  have H_a_18 := Lib.hid (H_a_17.out.grown hb (Nat.le_refl _))
  have H_o_18 := Lib.hid (H_o_17.out.grown hb (Nat.le_refl _))
  have H_c_18 := Lib.hid hnew
  clear hb B17 z17 hnew H_l_17 H_k_17 H_a_17 H_o_17
  go_wp2_with fail
  refine (rover_any a c l k _ H_a_18.out H_c_18.out HRL.out (by omega) (by omega)).mono ?_; rintro e w19 ⟨ro, rfl, hnew, hb⟩
  have B19 := Lib.hid (B18.out.step hb z18)
  have z19 := B19.out.size
  have H_l_19 := Lib.hid (H_l_18.out.grown hb (Nat.le_refl _))
  have H_k_19 := Lib.hid (H_k_18.out.grown hb (Nat.le_refl _))
  have H_a_19 := Lib.hid (H_a_18.out.grown hb (Nat.le_refl _))
  have H_o_19 := Lib.hid (H_o_18.out.grown hb (Nat.le_refl _))
  have H_c_19 := Lib.hid (H_c_18.out.grown hb (Nat.le_refl _))
  have H_ro_19 := Lib.hid hnew
  clear hb B18 z18 hnew H_l_18 H_k_18 H_a_18 H_o_18 H_c_18
  go_wp2_with fail
  refine (same_any o ro (over l k) _ H_o_19.out H_ro_19.out).mono ?_; rintro e w20 ⟨rfl, hb⟩
  have B20 := Lib.hid (B19.out.step hb z19)
  have z20 := B20.out.size
  have H_l_20 := Lib.hid (H_l_19.out.grown hb (Nat.le_refl _))
  have H_k_20 := Lib.hid (H_k_19.out.grown hb (Nat.le_refl _))
  have H_a_20 := Lib.hid (H_a_19.out.grown hb (Nat.le_refl _))
  have H_o_20 := Lib.hid (H_o_19.out.grown hb (Nat.le_refl _))
  have H_c_20 := Lib.hid (H_c_19.out.grown hb (Nat.le_refl _))
  have H_ro_20 := Lib.hid (H_ro_19.out.grown hb (Nat.le_refl _))
  clear hb B19 z19 H_l_19 H_k_19 H_a_19 H_o_19 H_c_19 H_ro_19
  go_wp2_with fail
  go_ret
  exact ⟨rfl, B20.out⟩

set_option maxRecDepth 100000 in
set_option maxHeartbeats 4000000 in
theorem tell_all10 (v0 v1 : Value) (l k : Pairs) (name v : ByteArray) (w : World) (h0 : Holds w v0 l) (h1 : Holds w v1 k) (x : ByteArray) (hzl : Small l) (hzk : Small k) (hfl : weight l < 3000) (hfk : weight k < 3000) (hG : get l name = some x) (hrl : ¬ Rise l) :
    Calls Try.prog 3 #[v0, v1, .string name, .string v] w fun e w' => e = .returned (.bool true) ∧ Below w.heap.size w w' := by
  have la := weight_len l; have lk := weight_len k; have p1 := put_length l name v
  have d1 : (drop l name).length ≤ l.length := List.length_filter_le _ _
  have HG := Lib.hid hG
  clear hG
  have HRL := Lib.hid hrl; clear hrl
  have H_l_0 := Lib.hid h0; have H_k_0 := Lib.hid h1
  clear h0 h1
  go_enter Try.func3, Try.ntmps3
  have B0 := Lib.hid (Below.refl w.heap.size w)
  have z0 : w.heap.size ≤ w.heap.size := Nat.le_refl _
  go_wp2_with fail
  refine (shown_true _).mono ?_; rintro e w1 ⟨rfl, hb⟩
  have B1 := Lib.hid (B0.out.step hb z0)
  have z1 := B1.out.size
  have H_l_1 := Lib.hid (H_l_0.out.grown hb (Nat.le_refl _))
  have H_k_1 := Lib.hid (H_k_0.out.grown hb (Nat.le_refl _))
  clear hb B0 z0 H_l_0 H_k_0
  go_wp2_with fail
  refine (few_yes v0 l _ H_l_1.out hzl hfl).mono ?_; rintro e w2 ⟨rfl, hb⟩
  have B2 := Lib.hid (B1.out.step hb z1)
  have z2 := B2.out.size
  have H_l_2 := Lib.hid (H_l_1.out.grown hb (Nat.le_refl _))
  have H_k_2 := Lib.hid (H_k_1.out.grown hb (Nat.le_refl _))
  clear hb B1 z1 H_l_1 H_k_1
  go_wp2_with fail
  refine (few_yes v1 k _ H_k_2.out hzk hfk).mono ?_; rintro e w3 ⟨rfl, hb⟩
  have B3 := Lib.hid (B2.out.step hb z2)
  have z3 := B3.out.size
  have H_l_3 := Lib.hid (H_l_2.out.grown hb (Nat.le_refl _))
  have H_k_3 := Lib.hid (H_k_2.out.grown hb (Nat.le_refl _))
  clear hb B2 z2 H_l_2 H_k_2
  go_wp2_with fail
  refine (asPairs_any v0 l _ H_l_3.out (by omega)).mono ?_; rintro e w4 ⟨a, rfl, hnew, hb⟩
  have B4 := Lib.hid (B3.out.step hb z3)
  have z4 := B4.out.size
  have H_l_4 := Lib.hid (H_l_3.out.grown hb (Nat.le_refl _))
  have H_k_4 := Lib.hid (H_k_3.out.grown hb (Nat.le_refl _))
  have H_a_4 := Lib.hid hnew
  clear hb B3 z3 hnew H_l_3 H_k_3
  go_wp2_with fail
  refine (get_some H_l_4.out HG.out).mono ?_; rintro e w5 ⟨rfl, hb⟩
  have B5 := Lib.hid (B4.out.step hb z4)
  have z5 := B5.out.size
  have H_l_5 := Lib.hid (H_l_4.out.grown hb (Nat.le_refl _))
  have H_k_5 := Lib.hid (H_k_4.out.grown hb (Nat.le_refl _))
  have H_a_5 := Lib.hid (H_a_4.out.grown hb (Nat.le_refl _))
  clear hb B4 z4 H_l_4 H_k_4 H_a_4
  go_wp2_with fail
  refine (rget_some H_a_5.out HG.out).mono ?_; rintro e w6 ⟨rfl, hb⟩
  have B6 := Lib.hid (B5.out.step hb z5)
  have z6 := B6.out.size
  have H_l_6 := Lib.hid (H_l_5.out.grown hb (Nat.le_refl _))
  have H_k_6 := Lib.hid (H_k_5.out.grown hb (Nat.le_refl _))
  have H_a_6 := Lib.hid (H_a_5.out.grown hb (Nat.le_refl _))
  clear hb B5 z5 H_l_5 H_k_5 H_a_5
  go_wp2_with fail
  refine (right_no v0 l _ H_l_6.out HRL.out).mono ?_; rintro e w7 ⟨rfl, hb⟩
  have B7 := Lib.hid (B6.out.step hb z6)
  have z7 := B7.out.size
  have H_l_7 := Lib.hid (H_l_6.out.grown hb (Nat.le_refl _))
  have H_k_7 := Lib.hid (H_k_6.out.grown hb (Nat.le_refl _))
  have H_a_7 := Lib.hid (H_a_6.out.grown hb (Nat.le_refl _))
  clear hb B6 z6 H_l_6 H_k_6 H_a_6
  go_wp2_with fail
  refine (rright_no a l _ H_a_7.out HRL.out).mono ?_; rintro e w8 ⟨rfl, hb⟩
  have B8 := Lib.hid (B7.out.step hb z7)
  have z8 := B8.out.size
  have H_l_8 := Lib.hid (H_l_7.out.grown hb (Nat.le_refl _))
  have H_k_8 := Lib.hid (H_k_7.out.grown hb (Nat.le_refl _))
  have H_a_8 := Lib.hid (H_a_7.out.grown hb (Nat.le_refl _))
  clear hb B7 z7 H_l_7 H_k_7 H_a_7
  go_wp2_with fail
  refine (right_no v0 l _ H_l_8.out HRL.out).mono ?_; rintro e w9 ⟨rfl, hb⟩
  have B9 := Lib.hid (B8.out.step hb z8)
  have z9 := B9.out.size
  have H_l_9 := Lib.hid (H_l_8.out.grown hb (Nat.le_refl _))
  have H_k_9 := Lib.hid (H_k_8.out.grown hb (Nat.le_refl _))
  have H_a_9 := Lib.hid (H_a_8.out.grown hb (Nat.le_refl _))
  clear hb B8 z8 H_l_8 H_k_8 H_a_8
  go_wp2_with fail
  go_ret
  exact ⟨rfl, B9.out⟩

set_option maxRecDepth 100000 in
set_option maxHeartbeats 4000000 in
theorem tell_all11 (v0 v1 : Value) (l k : Pairs) (name v : ByteArray) (w : World) (h0 : Holds w v0 l) (h1 : Holds w v1 k) (x : ByteArray) (hzl : Small l) (hzk : Small k) (hfl : weight l < 3000) (hfk : weight k < 3000) (hG : get l name = some x) (hrl : Rise l) (hrk : ¬ Rise k) :
    Calls Try.prog 3 #[v0, v1, .string name, .string v] w fun e w' => e = .returned (.bool true) ∧ Below w.heap.size w w' := by
  have la := weight_len l; have lk := weight_len k; have p1 := put_length l name v
  have d1 : (drop l name).length ≤ l.length := List.length_filter_le _ _
  have HG := Lib.hid hG
  clear hG
  have HRL := Lib.hid hrl; have HRK := Lib.hid hrk; clear hrl hrk
  have H_l_0 := Lib.hid h0; have H_k_0 := Lib.hid h1
  clear h0 h1
  go_enter Try.func3, Try.ntmps3
  have B0 := Lib.hid (Below.refl w.heap.size w)
  have z0 : w.heap.size ≤ w.heap.size := Nat.le_refl _
  go_wp2_with fail
  refine (shown_true _).mono ?_; rintro e w1 ⟨rfl, hb⟩
  have B1 := Lib.hid (B0.out.step hb z0)
  have z1 := B1.out.size
  have H_l_1 := Lib.hid (H_l_0.out.grown hb (Nat.le_refl _))
  have H_k_1 := Lib.hid (H_k_0.out.grown hb (Nat.le_refl _))
  clear hb B0 z0 H_l_0 H_k_0
  go_wp2_with fail
  refine (few_yes v0 l _ H_l_1.out hzl hfl).mono ?_; rintro e w2 ⟨rfl, hb⟩
  have B2 := Lib.hid (B1.out.step hb z1)
  have z2 := B2.out.size
  have H_l_2 := Lib.hid (H_l_1.out.grown hb (Nat.le_refl _))
  have H_k_2 := Lib.hid (H_k_1.out.grown hb (Nat.le_refl _))
  clear hb B1 z1 H_l_1 H_k_1
  go_wp2_with fail
  refine (few_yes v1 k _ H_k_2.out hzk hfk).mono ?_; rintro e w3 ⟨rfl, hb⟩
  have B3 := Lib.hid (B2.out.step hb z2)
  have z3 := B3.out.size
  have H_l_3 := Lib.hid (H_l_2.out.grown hb (Nat.le_refl _))
  have H_k_3 := Lib.hid (H_k_2.out.grown hb (Nat.le_refl _))
  clear hb B2 z2 H_l_2 H_k_2
  go_wp2_with fail
  refine (asPairs_any v0 l _ H_l_3.out (by omega)).mono ?_; rintro e w4 ⟨a, rfl, hnew, hb⟩
  have B4 := Lib.hid (B3.out.step hb z3)
  have z4 := B4.out.size
  have H_l_4 := Lib.hid (H_l_3.out.grown hb (Nat.le_refl _))
  have H_k_4 := Lib.hid (H_k_3.out.grown hb (Nat.le_refl _))
  have H_a_4 := Lib.hid hnew
  clear hb B3 z3 hnew H_l_3 H_k_3
  go_wp2_with fail
  refine (get_some H_l_4.out HG.out).mono ?_; rintro e w5 ⟨rfl, hb⟩
  have B5 := Lib.hid (B4.out.step hb z4)
  have z5 := B5.out.size
  have H_l_5 := Lib.hid (H_l_4.out.grown hb (Nat.le_refl _))
  have H_k_5 := Lib.hid (H_k_4.out.grown hb (Nat.le_refl _))
  have H_a_5 := Lib.hid (H_a_4.out.grown hb (Nat.le_refl _))
  clear hb B4 z4 H_l_4 H_k_4 H_a_4
  go_wp2_with fail
  refine (rget_some H_a_5.out HG.out).mono ?_; rintro e w6 ⟨rfl, hb⟩
  have B6 := Lib.hid (B5.out.step hb z5)
  have z6 := B6.out.size
  have H_l_6 := Lib.hid (H_l_5.out.grown hb (Nat.le_refl _))
  have H_k_6 := Lib.hid (H_k_5.out.grown hb (Nat.le_refl _))
  have H_a_6 := Lib.hid (H_a_5.out.grown hb (Nat.le_refl _))
  clear hb B5 z5 H_l_5 H_k_5 H_a_5
  go_wp2_with fail
  refine (right_yes v0 l _ H_l_6.out HRL.out).mono ?_; rintro e w7 ⟨rfl, hb⟩
  have B7 := Lib.hid (B6.out.step hb z6)
  have z7 := B7.out.size
  have H_l_7 := Lib.hid (H_l_6.out.grown hb (Nat.le_refl _))
  have H_k_7 := Lib.hid (H_k_6.out.grown hb (Nat.le_refl _))
  have H_a_7 := Lib.hid (H_a_6.out.grown hb (Nat.le_refl _))
  clear hb B6 z6 H_l_6 H_k_6 H_a_6
  go_wp2_with fail
  refine (rright_yes a l _ H_a_7.out HRL.out).mono ?_; rintro e w8 ⟨rfl, hb⟩
  have B8 := Lib.hid (B7.out.step hb z7)
  have z8 := B8.out.size
  have H_l_8 := Lib.hid (H_l_7.out.grown hb (Nat.le_refl _))
  have H_k_8 := Lib.hid (H_k_7.out.grown hb (Nat.le_refl _))
  have H_a_8 := Lib.hid (H_a_7.out.grown hb (Nat.le_refl _))
  clear hb B7 z7 H_l_7 H_k_7 H_a_7
  go_wp2_with fail
  refine (right_yes v0 l _ H_l_8.out HRL.out).mono ?_; rintro e w9 ⟨rfl, hb⟩
  have B9 := Lib.hid (B8.out.step hb z8)
  have z9 := B9.out.size
  have H_l_9 := Lib.hid (H_l_8.out.grown hb (Nat.le_refl _))
  have H_k_9 := Lib.hid (H_k_8.out.grown hb (Nat.le_refl _))
  have H_a_9 := Lib.hid (H_a_8.out.grown hb (Nat.le_refl _))
  clear hb B8 z8 H_l_8 H_k_8 H_a_8
  go_wp2_with fail
  refine (right_no v1 k _ H_k_9.out HRK.out).mono ?_; rintro e w10 ⟨rfl, hb⟩
  have B10 := Lib.hid (B9.out.step hb z9)
  have z10 := B10.out.size
  have H_l_10 := Lib.hid (H_l_9.out.grown hb (Nat.le_refl _))
  have H_k_10 := Lib.hid (H_k_9.out.grown hb (Nat.le_refl _))
  have H_a_10 := Lib.hid (H_a_9.out.grown hb (Nat.le_refl _))
  clear hb B9 z9 H_l_9 H_k_9 H_a_9
  go_wp2_with fail
  go_ret
  exact ⟨rfl, B10.out⟩

set_option maxRecDepth 100000 in
set_option maxHeartbeats 4000000 in
theorem tell_all12 (v0 v1 : Value) (l k : Pairs) (name v : ByteArray) (w : World) (h0 : Holds w v0 l) (h1 : Holds w v1 k) (x : ByteArray) (hzl : Small l) (hzk : Small k) (hfl : weight l < 3000) (hfk : weight k < 3000) (hG : get l name = some x) (hrl : Rise l) (hrk : Rise k) :
    Calls Try.prog 3 #[v0, v1, .string name, .string v] w fun e w' => e = .returned (.bool true) ∧ Below w.heap.size w w' := by
  have la := weight_len l; have lk := weight_len k; have p1 := put_length l name v
  have d1 : (drop l name).length ≤ l.length := List.length_filter_le _ _
  have HG := Lib.hid hG
  clear hG
  have HRP := Lib.hid (rput_put hrl name v); have HMO := Lib.hid (merge_over hrl hrk)
  have HRL := Lib.hid hrl; have HRK := Lib.hid hrk; clear hrl hrk
  have H_l_0 := Lib.hid h0; have H_k_0 := Lib.hid h1
  clear h0 h1
  go_enter Try.func3, Try.ntmps3
  have B0 := Lib.hid (Below.refl w.heap.size w)
  have z0 : w.heap.size ≤ w.heap.size := Nat.le_refl _
  go_wp2_with fail
  refine (shown_true _).mono ?_; rintro e w1 ⟨rfl, hb⟩
  have B1 := Lib.hid (B0.out.step hb z0)
  have z1 := B1.out.size
  have H_l_1 := Lib.hid (H_l_0.out.grown hb (Nat.le_refl _))
  have H_k_1 := Lib.hid (H_k_0.out.grown hb (Nat.le_refl _))
  clear hb B0 z0 H_l_0 H_k_0
  go_wp2_with fail
  refine (few_yes v0 l _ H_l_1.out hzl hfl).mono ?_; rintro e w2 ⟨rfl, hb⟩
  have B2 := Lib.hid (B1.out.step hb z1)
  have z2 := B2.out.size
  have H_l_2 := Lib.hid (H_l_1.out.grown hb (Nat.le_refl _))
  have H_k_2 := Lib.hid (H_k_1.out.grown hb (Nat.le_refl _))
  clear hb B1 z1 H_l_1 H_k_1
  go_wp2_with fail
  refine (few_yes v1 k _ H_k_2.out hzk hfk).mono ?_; rintro e w3 ⟨rfl, hb⟩
  have B3 := Lib.hid (B2.out.step hb z2)
  have z3 := B3.out.size
  have H_l_3 := Lib.hid (H_l_2.out.grown hb (Nat.le_refl _))
  have H_k_3 := Lib.hid (H_k_2.out.grown hb (Nat.le_refl _))
  clear hb B2 z2 H_l_2 H_k_2
  go_wp2_with fail
  refine (asPairs_any v0 l _ H_l_3.out (by omega)).mono ?_; rintro e w4 ⟨a, rfl, hnew, hb⟩
  have B4 := Lib.hid (B3.out.step hb z3)
  have z4 := B4.out.size
  have H_l_4 := Lib.hid (H_l_3.out.grown hb (Nat.le_refl _))
  have H_k_4 := Lib.hid (H_k_3.out.grown hb (Nat.le_refl _))
  have H_a_4 := Lib.hid hnew
  clear hb B3 z3 hnew H_l_3 H_k_3
  go_wp2_with fail
  refine (get_some H_l_4.out HG.out).mono ?_; rintro e w5 ⟨rfl, hb⟩
  have B5 := Lib.hid (B4.out.step hb z4)
  have z5 := B5.out.size
  have H_l_5 := Lib.hid (H_l_4.out.grown hb (Nat.le_refl _))
  have H_k_5 := Lib.hid (H_k_4.out.grown hb (Nat.le_refl _))
  have H_a_5 := Lib.hid (H_a_4.out.grown hb (Nat.le_refl _))
  clear hb B4 z4 H_l_4 H_k_4 H_a_4
  go_wp2_with fail
  refine (rget_some H_a_5.out HG.out).mono ?_; rintro e w6 ⟨rfl, hb⟩
  have B6 := Lib.hid (B5.out.step hb z5)
  have z6 := B6.out.size
  have H_l_6 := Lib.hid (H_l_5.out.grown hb (Nat.le_refl _))
  have H_k_6 := Lib.hid (H_k_5.out.grown hb (Nat.le_refl _))
  have H_a_6 := Lib.hid (H_a_5.out.grown hb (Nat.le_refl _))
  clear hb B5 z5 H_l_5 H_k_5 H_a_5
  go_wp2_with fail
  refine (right_yes v0 l _ H_l_6.out HRL.out).mono ?_; rintro e w7 ⟨rfl, hb⟩
  have B7 := Lib.hid (B6.out.step hb z6)
  have z7 := B7.out.size
  have H_l_7 := Lib.hid (H_l_6.out.grown hb (Nat.le_refl _))
  have H_k_7 := Lib.hid (H_k_6.out.grown hb (Nat.le_refl _))
  have H_a_7 := Lib.hid (H_a_6.out.grown hb (Nat.le_refl _))
  clear hb B6 z6 H_l_6 H_k_6 H_a_6
  go_wp2_with fail
  refine (rright_yes a l _ H_a_7.out HRL.out).mono ?_; rintro e w8 ⟨rfl, hb⟩
  have B8 := Lib.hid (B7.out.step hb z7)
  have z8 := B8.out.size
  have H_l_8 := Lib.hid (H_l_7.out.grown hb (Nat.le_refl _))
  have H_k_8 := Lib.hid (H_k_7.out.grown hb (Nat.le_refl _))
  have H_a_8 := Lib.hid (H_a_7.out.grown hb (Nat.le_refl _))
  clear hb B7 z7 H_l_7 H_k_7 H_a_7
  go_wp2_with fail
  refine (right_yes v0 l _ H_l_8.out HRL.out).mono ?_; rintro e w9 ⟨rfl, hb⟩
  have B9 := Lib.hid (B8.out.step hb z8)
  have z9 := B9.out.size
  have H_l_9 := Lib.hid (H_l_8.out.grown hb (Nat.le_refl _))
  have H_k_9 := Lib.hid (H_k_8.out.grown hb (Nat.le_refl _))
  have H_a_9 := Lib.hid (H_a_8.out.grown hb (Nat.le_refl _))
  clear hb B8 z8 H_l_8 H_k_8 H_a_8
  go_wp2_with fail
  refine (right_yes v1 k _ H_k_9.out HRK.out).mono ?_; rintro e w10 ⟨rfl, hb⟩
  have B10 := Lib.hid (B9.out.step hb z9)
  have z10 := B10.out.size
  have H_l_10 := Lib.hid (H_l_9.out.grown hb (Nat.le_refl _))
  have H_k_10 := Lib.hid (H_k_9.out.grown hb (Nat.le_refl _))
  have H_a_10 := Lib.hid (H_a_9.out.grown hb (Nat.le_refl _))
  clear hb B9 z9 H_l_9 H_k_9 H_a_9
  go_wp2_with fail
  refine (put_any v0 l name v _ H_l_10.out HRL.out (by omega)).mono ?_; rintro e w11 ⟨p, rfl, hnew, hb⟩
  have B11 := Lib.hid (B10.out.step hb z10)
  have z11 := B11.out.size
  have H_l_11 := Lib.hid (H_l_10.out.grown hb (Nat.le_refl _))
  have H_k_11 := Lib.hid (H_k_10.out.grown hb (Nat.le_refl _))
  have H_a_11 := Lib.hid (H_a_10.out.grown hb (Nat.le_refl _))
  have H_p_11 := Lib.hid hnew
  clear hb B10 z10 hnew H_l_10 H_k_10 H_a_10
  go_wp2_with fail
  refine (rput_any a l name v _ H_a_11.out (by omega)).mono ?_; rintro e w12 ⟨rp, rfl, hnew, hb⟩
  have B12 := Lib.hid (B11.out.step hb z11)
  have z12 := B12.out.size
  have H_l_12 := Lib.hid (H_l_11.out.grown hb (Nat.le_refl _))
  have H_k_12 := Lib.hid (H_k_11.out.grown hb (Nat.le_refl _))
  have H_a_12 := Lib.hid (H_a_11.out.grown hb (Nat.le_refl _))
  have H_p_12 := Lib.hid (H_p_11.out.grown hb (Nat.le_refl _))
  rw [HRP.out] at hnew
  have H_rp_12 := Lib.hid hnew
  clear hb B11 z11 hnew H_l_11 H_k_11 H_a_11 H_p_11
  go_wp2_with fail
  refine (same_any p rp (put l name v) _ H_p_12.out H_rp_12.out).mono ?_; rintro e w13 ⟨rfl, hb⟩
  have B13 := Lib.hid (B12.out.step hb z12)
  have z13 := B13.out.size
  have H_l_13 := Lib.hid (H_l_12.out.grown hb (Nat.le_refl _))
  have H_k_13 := Lib.hid (H_k_12.out.grown hb (Nat.le_refl _))
  have H_a_13 := Lib.hid (H_a_12.out.grown hb (Nat.le_refl _))
  have H_p_13 := Lib.hid (H_p_12.out.grown hb (Nat.le_refl _))
  have H_rp_13 := Lib.hid (H_rp_12.out.grown hb (Nat.le_refl _))
  clear hb B12 z12 H_l_12 H_k_12 H_a_12 H_p_12 H_rp_12
  clear H_p_13 H_rp_13
  go_wp2_with fail
  refine (drop_any v0 l name _ H_l_13.out HRL.out (by omega)).mono ?_; rintro e w14 ⟨d, rfl, hnew, hb⟩
  have B14 := Lib.hid (B13.out.step hb z13)
  have z14 := B14.out.size
  have H_l_14 := Lib.hid (H_l_13.out.grown hb (Nat.le_refl _))
  have H_k_14 := Lib.hid (H_k_13.out.grown hb (Nat.le_refl _))
  have H_a_14 := Lib.hid (H_a_13.out.grown hb (Nat.le_refl _))
  have H_d_14 := Lib.hid hnew
  clear hb B13 z13 hnew H_l_13 H_k_13 H_a_13
  go_wp2_with fail
  refine (rdrop_any a l name _ H_a_14.out (by omega)).mono ?_; rintro e w15 ⟨rd, rfl, hnew, hb⟩
  have B15 := Lib.hid (B14.out.step hb z14)
  have z15 := B15.out.size
  have H_l_15 := Lib.hid (H_l_14.out.grown hb (Nat.le_refl _))
  have H_k_15 := Lib.hid (H_k_14.out.grown hb (Nat.le_refl _))
  have H_a_15 := Lib.hid (H_a_14.out.grown hb (Nat.le_refl _))
  have H_d_15 := Lib.hid (H_d_14.out.grown hb (Nat.le_refl _))
  have H_rd_15 := Lib.hid hnew
  clear hb B14 z14 hnew H_l_14 H_k_14 H_a_14 H_d_14
  go_wp2_with fail
  refine (same_any d rd (drop l name) _ H_d_15.out H_rd_15.out).mono ?_; rintro e w16 ⟨rfl, hb⟩
  have B16 := Lib.hid (B15.out.step hb z15)
  have z16 := B16.out.size
  have H_l_16 := Lib.hid (H_l_15.out.grown hb (Nat.le_refl _))
  have H_k_16 := Lib.hid (H_k_15.out.grown hb (Nat.le_refl _))
  have H_a_16 := Lib.hid (H_a_15.out.grown hb (Nat.le_refl _))
  have H_d_16 := Lib.hid (H_d_15.out.grown hb (Nat.le_refl _))
  have H_rd_16 := Lib.hid (H_rd_15.out.grown hb (Nat.le_refl _))
  clear hb B15 z15 H_l_15 H_k_15 H_a_15 H_d_15 H_rd_15
  clear H_d_16 H_rd_16
  go_wp2_with fail
  refine (over_any v0 v1 l k _ H_l_16.out H_k_16.out (by omega)).mono ?_; rintro e w17 ⟨o, rfl, hnew, hb⟩
  have B17 := Lib.hid (B16.out.step hb z16)
  have z17 := B17.out.size
  have H_l_17 := Lib.hid (H_l_16.out.grown hb (Nat.le_refl _))
  have H_k_17 := Lib.hid (H_k_16.out.grown hb (Nat.le_refl _))
  have H_a_17 := Lib.hid (H_a_16.out.grown hb (Nat.le_refl _))
  rw [HMO.out] at hnew
  have H_o_17 := Lib.hid hnew
  clear hb B16 z16 hnew H_l_16 H_k_16 H_a_16
  go_wp2_with fail
  refine (asPairs_any v1 k _ H_k_17.out (by omega)).mono ?_; rintro e w18 ⟨c, rfl, hnew, hb⟩
  have B18 := Lib.hid (B17.out.step hb z17)
  have z18 := B18.out.size
  have H_l_18 := Lib.hid (H_l_17.out.grown hb (Nat.le_refl _))
  have H_k_18 := Lib.hid (H_k_17.out.grown hb (Nat.le_refl _))
  have H_a_18 := Lib.hid (H_a_17.out.grown hb (Nat.le_refl _))
  have H_o_18 := Lib.hid (H_o_17.out.grown hb (Nat.le_refl _))
  have H_c_18 := Lib.hid hnew
  clear hb B17 z17 hnew H_l_17 H_k_17 H_a_17 H_o_17
  go_wp2_with fail
  refine (rover_any a c l k _ H_a_18.out H_c_18.out HRL.out (by omega) (by omega)).mono ?_; rintro e w19 ⟨ro, rfl, hnew, hb⟩
  have B19 := Lib.hid (B18.out.step hb z18)
  have z19 := B19.out.size
  have H_l_19 := Lib.hid (H_l_18.out.grown hb (Nat.le_refl _))
  have H_k_19 := Lib.hid (H_k_18.out.grown hb (Nat.le_refl _))
  have H_a_19 := Lib.hid (H_a_18.out.grown hb (Nat.le_refl _))
  have H_o_19 := Lib.hid (H_o_18.out.grown hb (Nat.le_refl _))
  have H_c_19 := Lib.hid (H_c_18.out.grown hb (Nat.le_refl _))
  have H_ro_19 := Lib.hid hnew
  clear hb B18 z18 hnew H_l_18 H_k_18 H_a_18 H_o_18 H_c_18
  go_wp2_with fail
  refine (same_any o ro (over l k) _ H_o_19.out H_ro_19.out).mono ?_; rintro e w20 ⟨rfl, hb⟩
  have B20 := Lib.hid (B19.out.step hb z19)
  have z20 := B20.out.size
  have H_l_20 := Lib.hid (H_l_19.out.grown hb (Nat.le_refl _))
  have H_k_20 := Lib.hid (H_k_19.out.grown hb (Nat.le_refl _))
  have H_a_20 := Lib.hid (H_a_19.out.grown hb (Nat.le_refl _))
  have H_o_20 := Lib.hid (H_o_19.out.grown hb (Nat.le_refl _))
  have H_c_20 := Lib.hid (H_c_19.out.grown hb (Nat.le_refl _))
  have H_ro_20 := Lib.hid (H_ro_19.out.grown hb (Nat.le_refl _))
  clear hb B19 z19 H_l_19 H_k_19 H_a_19 H_o_19 H_c_19 H_ro_19
  go_wp2_with fail
  go_ret
  exact ⟨rfl, B20.out⟩

theorem tell_ok (v0 v1 : Value) (l k : Pairs) (name v : ByteArray) (w : World) (h0 : Holds w v0 l) (h1 : Holds w v1 k) (hzl : Small l) (hzk : Small k) :
    Calls Try.prog 3 #[v0, v1, .string name, .string v] w fun e w' => e = .returned (.bool true) ∧ Below w.heap.size w w' := by
  by_cases hfl : weight l < 3000
  · by_cases hfk : weight k < 3000
    · cases hG : get l name with
      | none =>
        by_cases hrl : Rise l
        · by_cases hrk : Rise k
          · exact tell_all02 v0 v1 l k name v w h0 h1 hzl hzk hfl hfk hG hrl hrk
          · exact tell_all01 v0 v1 l k name v w h0 h1 hzl hzk hfl hfk hG hrl hrk
        · exact tell_all00 v0 v1 l k name v w h0 h1 hzl hzk hfl hfk hG hrl
      | some x =>
        by_cases hrl : Rise l
        · by_cases hrk : Rise k
          · exact tell_all12 v0 v1 l k name v w h0 h1 x hzl hzk hfl hfk hG hrl hrk
          · exact tell_all11 v0 v1 l k name v w h0 h1 x hzl hzk hfl hfk hG hrl hrk
        · exact tell_all10 v0 v1 l k name v w h0 h1 x hzl hzk hfl hfk hG hrl
    · exact tell_few10 v0 v1 l k name v w h0 h1 hzl hzk hfl hfk
  · by_cases hfk : weight k < 3000
    · exact tell_few01 v0 v1 l k name v w h0 h1 hzl hzk hfl hfk
    · exact tell_few00 v0 v1 l k name v w h0 h1 hzl hzk hfl hfk

set_option maxRecDepth 100000 in
theorem tell_lifted (os : Os) (started : os.Started) (H : Type) (enc : TypeId × Value → H) :
    ReturnsInHanded {} Try.checked os 3 .any (Rows.varsTellSpec.pre6 enc Try.prog Try.f3 Rows.varsTellRow.domain false) (Rows.varsTellSpec.post enc Try.prog Try.f3 false true false false) := by
  refine returnsInHanded_of_change_sized (C := Try.checked) own started (by kernel_rfl) Try.func3
    (ChangeSpec.witness6 (enc := enc) (C := Try.checked) false ⟨#[], #[.slice none 0 0, .slice none 0 0, .string { data := #[] }, .string { data := #[] }], []⟩ 8 (by kernel_rfl) (by kernel_rfl) (by kernel_rfl) (by kernel_rfl)) ?_
  intro W base args ds gs before hval0 hW _ hsz0 _
  have hsz : (DataW.weightsEach Try.prog (Try.f3.params.toList ++ Rows.varsTellSpec.plain.varTypes Try.prog) (ds ++ gs)).all (· ≤ reachBytes) = true := hsz0
  clear hsz0
  have hval : ∀ (j : Nat) t v, Try.f3.params[j]? = some t → args[j]? = some v → Value.okWide Try.prog W .any base t v := hval0
  have hW' := hW
  obtain ⟨p, q, hA0, hV, rfl, _, _⟩ := hW
  have hA : DataW.TrodAll enc Try.prog W 0 (fun _ => true) true Try.f3.params.toList args.toList ds p := hA0
  rw [Try.params3] at hA hval hsz
  obtain ⟨v0, v1, v2, v3, d0, d1, d2, d3, p0, p1, p2, p3, rfl, rfl, rfl, h0, h1, h2, h3⟩ := trodAll_four hA
  obtain ⟨rfl, rfl⟩ := trodVars_none hV
  obtain ⟨a0, len0, cap0, rfl⟩ := okWide_slice Try.underlying22 (hval 0 22 v0 rfl rfl)
  obtain ⟨gl, hg0, hw0⟩ := open_pairs h0
  have hz0 : Small gl := fun q hq => ⟨of_decide_eq_true (List.all_eq_true.1 hsz _ (DataW.weights_mem_each (j := 0) (t := 22) rfl rfl _ (hw0 q hq).1)), of_decide_eq_true (List.all_eq_true.1 hsz _ (DataW.weights_mem_each (j := 0) (t := 22) rfl rfl _ (hw0 q hq).2))⟩
  obtain ⟨a1, len1, cap1, rfl⟩ := okWide_slice Try.underlying22 (hval 1 22 v1 rfl rfl)
  obtain ⟨gk, hg1, hw1⟩ := open_pairs h1
  have hz1 : Small gk := fun q hq => ⟨of_decide_eq_true (List.all_eq_true.1 hsz _ (DataW.weights_mem_each (j := 1) (t := 22) rfl rfl _ (hw1 q hq).1)), of_decide_eq_true (List.all_eq_true.1 hsz _ (DataW.weights_mem_each (j := 1) (t := 22) rfl rfl _ (hw1 q hq).2))⟩
  obtain ⟨name, rfl, rfl, rfl, hl_name⟩ := Go.ChangeMaps.open_string Try.underlying9 (hval 2 9 v2 rfl rfl) h2
  have hz_name : name.size ≤ 140737488351232 := by have := sized_string hsz (j := 2) (t := 9) rfl rfl; rw [size_list] at this; exact this
  obtain ⟨v, rfl, rfl, rfl, hl_v⟩ := Go.ChangeMaps.open_string Try.underlying9 (hval 3 9 v3 rfl rfl) h3
  have hz_v : v.size ≤ 140737488351232 := by have := sized_string hsz (j := 3) (t := 9) rfl rfl; rw [size_list] at this; exact this
  refine (tell_ok _ _ gl gk name v W hg0 hg1 hz0 hz1).mono fun e W' ⟨he, hb⟩ => ?_
  subst he
  exact ⟨_, rfl, law_shut laidOut (by kernel_rfl) (by kernel_rfl) Try.underlying4 rfl hW' rfl hb⟩

theorem tell_holds : Rows.VarsTellSaid :=
  OpenClaim.holds_of_wide 3 Try.f3 rfl rfl rfl rfl rfl rfl rfl ⟨rfl, rfl, rfl, rfl, rfl⟩ rfl rfl rfl rfl rfl (by kernel_rfl) Try.func3 (by kernel_rfl)
    (of_decide_eq_true (by kernel_rfl)) (by unfold Func.isWrapper; rw [if_neg (of_decide_eq_false (by kernel_rfl))]; exact ⟨rfl, rfl⟩)
    (fun os started H enc _ => tell_lifted os started H enc)
end Go.Proofs.Ytjckfdpkcaloiaa
