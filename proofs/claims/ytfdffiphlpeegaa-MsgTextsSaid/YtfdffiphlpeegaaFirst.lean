/- Contracts of what takes a frame of a text. -/
import Derived.Test.YtfdffiphlpeegaaRows
import Derived.Test.YtfdffiphlpeegaaPlain
import Derived.Test.YtfdffiphlpeegaaMShown
import Derived.BigQuiet
import Derived.Deep.QuietTactic
import Derived.RegionTactic
import Derived.Defers
import Derived.Recover
import Derived.WalkLawsBesides
import Derived.WalkSpells
namespace Go.Proofs.Ytfdffiphlpeegaa
open Go.RowKit Go.Lib

theorem ahead_ok (s : ByteArray) (n : Int) (w : World) (h0 : 0 ≤ n) (h : n ≤ s.size) :
    Calls Try.prog 35 #[.string s, .int .i64 n] w fun e w' => e = .returned (.string (s.extract 0 n.toNat)) ∧ w = w' := by
  obtain ⟨m, rfl⟩ := Int.eq_ofNat_of_zero_le h0
  have h1 : ¬ (s.size : Int) < m := by omega
  go_enter Try.func35, Try.ntmps35
  go_wp2
  go_ret
  exact ⟨rfl, rfl⟩

theorem ahead_few (s : ByteArray) (n : Int) (w : World) (h : (s.size : Int) < n) :
    Calls Try.prog 35 #[.string s, .int .i64 n] w fun e w' => e = .panicked [{ v := .iface 30 (.int .i64 4), recovered := false }] ∧ w = w' := by
  go_enter Try.func35, Try.ntmps35
  go_wp2
  exact ⟨rfl, rfl, rfl⟩

theorem big_any (s : ByteArray) (w : World) (h : 4 ≤ s.size) :
    Calls Try.prog 36 #[.string s] w fun e w' => e = .returned (.int .u32 (big4 s.data.toList : Nat)) ∧ ∃ k, w' = w.drewN k := by
  have a0 : 0 < s.size := by omega
  have a1 : (1 : Int) < s.size := by omega
  have a2 : (2 : Int) < s.size := by omega
  have a3 : (3 : Int) < s.size := by omega
  have hv := four_or s[0] s[1] s[2] s[3]
  have hb : big4 s.data.toList = s[0].toNat * 16777216 + s[1].toNat * 65536 + s[2].toNat * 256 + s[3].toNat := by rw [bytes_four s h]; rfl
  rw [← hb] at hv
  have HV := Lib.hid hv
  clear hv hb
  go_enter Try.func36, Try.ntmps36
  go_wp2
  go_quiet (fail)
  go_wp2
  go_ret
  exact ⟨congrArg (fun n => Ending.returned (.int .u32 n)) HV.out, _, rfl⟩

theorem number_at (s : ByteArray) (i j : Nat) (w : World) (h : j ≤ s.size) (hi : i + 4 = j) :
    Calls Try.prog 36 #[.string ((s.extract 0 j).extract i j)] w fun e w' => e = .returned (.int .u32 (num s i : Nat)) ∧ ∃ k, w' = w.drewN k := by
  have := big_any ((s.extract 0 j).extract i j) w (by rw [size_cut s i j h hi]; omega)
  rw [num_cut s i j hi] at this
  exact this

theorem catch_panicking (b : Nat) (x0 x1 x2 x3 : Value) (u : TypeId) (pv : Value) (older : List PanicEntry) (w : World)
    (c0 : w.cell? ⟨b, 0, none⟩ = some x0) (c1 : w.cell? ⟨b, 1, none⟩ = some x1) (c2 : w.cell? ⟨b + 1, 0, none⟩ = some x2) (c3 : w.cell? ⟨b + 1 + 1, 0, none⟩ = some x3)
    (f0 : w.frozen? ⟨b, 0, none⟩ = false) (f1 : w.frozen? ⟨b, 1, none⟩ = false) (f2 : w.frozen? ⟨b + 1, 0, none⟩ = false) (f3 : w.frozen? ⟨b + 1 + 1, 0, none⟩ = false) :
    CallsD Try.prog 34 #[.pointer (some ⟨b, 0, none⟩), .pointer (some ⟨b + 1, 0, none⟩), .pointer (some ⟨b + 1 + 1, 0, none⟩)] (.panicking ({ v := .iface u pv, recovered := false } :: older)) w fun e u' w' =>
      e = .returned (.tuple #[]) ∧ u' = .panicking ({ v := .iface u pv, recovered := true } :: older) ∧
        w' = (((w.setCell ⟨b, 0, none⟩ (.int .u8 0)).setCell ⟨b, 1, none⟩ (.string { data := #[] })).setCell ⟨b + 1, 0, none⟩ (.int .i64 0)).setCell ⟨b + 1 + 1, 0, none⟩ (.int .i64 4) := by
  refine callsD_of_wpS Try.func34 rfl fun c₀ cs hu => ?_
  apply wpS_seq
  apply wpS_region
  simp [wpOpsS, go_sem, recoverD, hu, Try.ntmps34, Exit.thenS]
  refine wpS_cond (t := true) (by simp [Act.eval, Array.replicate]) ?_
  simp only [if_true]
  apply wpS_region
  simp [wpOpsS, go_sem, c0, c1, c2, c3, f0, f1, f2, f3, bodyPostS, results, Try.results34]

theorem catch_idle1 (b : Nat) (w : World) :
    CallsD Try.prog 34 #[.pointer (some ⟨b, 0, none⟩), .pointer (some ⟨b + 1, 0, none⟩), .pointer (some ⟨b + 1 + 1, 0, none⟩)] .returning w fun e u' w' => e = .returned (.tuple #[]) ∧ u' = .returning ∧ w' = w := by
  refine callsD_of_wpS Try.func34 rfl fun c₀ cs hu => ?_
  apply wpS_seq
  apply wpS_region
  simp [wpOpsS, go_sem, recoverD, hu, Try.ntmps34, Exit.thenS]
  refine wpS_cond (t := false) (by simp [Act.eval, Array.replicate]) ?_
  simp only [Bool.false_eq_true, if_false]
  refine wpS_of_wp (wp_skip ?_)
  cases c₀
  simp_all [bodyPostS, results, Try.results34]

@[go_sem, simp] theorem setCell_drewN (w : World) (k : Nat) (a : Addr) (v : Value) : (w.drewN k).setCell a v = (w.setCell a v).drewN k := rfl

/-- The three blocks that the results lie in. -/
def three (w : World) (t : Int) (s : ByteArray) (n e : Int) : World :=
  ((w.alloc (.cells #[.int .u8 t, .string s] 29)).alloc (.cells #[.int .i64 n] 3)).alloc (.cells #[.int .i64 e] 30)

theorem three_below (w : World) (t : Int) (s : ByteArray) (n e : Int) : Below w.heap.size w (three w t s n e) :=
  (((Below.refl _ _).alloc (Nat.le_refl _) _).alloc (by simp) _).alloc (by simp; omega) _

theorem catch_three (w : World) (t : Int) (s : ByteArray) (n e : Int) (k : Nat) (u : TypeId) (pv : Value) (older : List PanicEntry) :
    CallsD Try.prog 34 #[.pointer (some ⟨w.heap.size, 0, none⟩), .pointer (some ⟨w.heap.size + 1, 0, none⟩), .pointer (some ⟨w.heap.size + 1 + 1, 0, none⟩)] (.panicking ({ v := .iface u pv, recovered := false } :: older)) ((three w t s n e).drewN k) fun e u' w' =>
      e = .returned (.tuple #[]) ∧ u' = .panicking ({ v := .iface u pv, recovered := true } :: older) ∧ w' = (three w 0 { data := #[] } 0 4).drewN k := by
  refine (catch_panicking w.heap.size (.int .u8 t) (.string s) (.int .i64 n) (.int .i64 e) u pv older _ ?_ ?_ ?_ ?_ ?_ ?_ ?_ ?_).mono ?_
  all_goals try simp [three, go_sem]

set_option maxHeartbeats 1000000 in
theorem first_few_bare (s : ByteArray) (w : World) (h : (s.size : Int) < 4) :
    Calls Try.prog 24 #[.string s, .bool true] w fun e w' => e = .returned (.tuple #[.agg #[.int .u8 0, .string { data := #[] }], .int .i64 0, .int .i64 4]) ∧ Below w.heap.size w w' := by
  have hmf : ∀ (fn : Fn) (first cap : Array Value) (w : World), (Instr.makeFunc fn first cap).run Try.prog w = .ok (.func fn first cap) w := fun _ _ _ _ => rfl
  go_enter_defers Try.func24, Try.ntmps24
  go_wp2_with ((go_at_call 35; refine (ahead_few s 4 _ h).mono ?_; rintro e w' ⟨rfl, rfl⟩))
  refine leaves_cons (f := 34) (args := #[.pointer (some ⟨w.heap.size, 0, none⟩), .pointer (some ⟨w.heap.size + 1, 0, none⟩), .pointer (some ⟨w.heap.size + 1 + 1, 0, none⟩)]) (by simp) (by simp [go_sem]) ?_
  refine (catch_three w 0 { data := #[] } 0 0 0 _ _ _).mono ?_
  rintro e u' w'' ⟨rfl, rfl, rfl⟩
  simp [Leaves, settle, results, Try.results24, go_sem, three]
  exact below_drewN (three_below w 0 { data := #[] } 0 4) _

set_option maxHeartbeats 1000000 in
theorem first_form_bare (s : ByteArray) (w : World) (h : 4 ≤ s.size) (hn : num s 0 < 4) :
    Calls Try.prog 24 #[.string s, .bool true] w fun e w' => e = .returned (.tuple #[.agg #[.int .u8 0, .string { data := #[] }], .int .i64 0, .int .i64 2]) ∧ Below w.heap.size w w' := by
  have hmf : ∀ (fn : Fn) (first cap : Array Value) (w : World), (Instr.makeFunc fn first cap).run Try.prog w = .ok (.func fn first cap) w := fun _ _ _ _ => rfl
  go_enter_defers Try.func24, Try.ntmps24
  go_wp2_with (first | (go_at_call 35; refine (ahead_ok s 4 _ (by omega) (by omega)).mono ?_; rintro e w' ⟨rfl, rfl⟩) | (go_at_call 36; refine (number_at s 0 4 _ h rfl).mono ?_; rintro e w' ⟨rfl, k, rfl⟩))
  refine leaves_cons (f := 34) (args := #[.pointer (some ⟨w.heap.size, 0, none⟩), .pointer (some ⟨w.heap.size + 1, 0, none⟩), .pointer (some ⟨w.heap.size + 1 + 1, 0, none⟩)]) (by simp) (by simp [go_sem]) ?_
  refine (catch_idle1 w.heap.size _).mono ?_
  rintro e u' w'' ⟨rfl, rfl, rfl⟩
  simp [Leaves, settle, results, Try.results24, go_sem]
  exact below_drewN (three_below w 0 { data := #[] } 0 2) _

set_option maxHeartbeats 1000000 in
theorem first_long_bare (s : ByteArray) (w : World) (h : 4 ≤ s.size) (hn : 10004 < num s 0) :
    Calls Try.prog 24 #[.string s, .bool true] w fun e w' => e = .returned (.tuple #[.agg #[.int .u8 0, .string { data := #[] }], .int .i64 0, .int .i64 3]) ∧ Below w.heap.size w w' := by
  have hmf : ∀ (fn : Fn) (first cap : Array Value) (w : World), (Instr.makeFunc fn first cap).run Try.prog w = .ok (.func fn first cap) w := fun _ _ _ _ => rfl
  go_enter_defers Try.func24, Try.ntmps24
  go_wp2_with (first | (go_at_call 35; refine (ahead_ok s 4 _ (by omega) (by omega)).mono ?_; rintro e w' ⟨rfl, rfl⟩) | (go_at_call 36; refine (number_at s 0 4 _ h rfl).mono ?_; rintro e w' ⟨rfl, k, rfl⟩))
  refine leaves_cons (f := 34) (args := #[.pointer (some ⟨w.heap.size, 0, none⟩), .pointer (some ⟨w.heap.size + 1, 0, none⟩), .pointer (some ⟨w.heap.size + 1 + 1, 0, none⟩)]) (by simp) (by simp [go_sem]) ?_
  refine (catch_idle1 w.heap.size _).mono ?_
  rintro e u' w'' ⟨rfl, rfl, rfl⟩
  simp [Leaves, settle, results, Try.results24, go_sem]
  exact below_drewN (three_below w 0 { data := #[] } 0 3) _

set_option maxHeartbeats 1000000 in
theorem first_more_bare (s : ByteArray) (w : World) (h : 4 ≤ s.size) (hn : 4 ≤ num s 0) (hn2 : num s 0 ≤ 10004) (hm : s.size < num s 0) :
    Calls Try.prog 24 #[.string s, .bool true] w fun e w' => e = .returned (.tuple #[.agg #[.int .u8 0, .string { data := #[] }], .int .i64 0, .int .i64 4]) ∧ Below w.heap.size w w' := by
  have hmf : ∀ (fn : Fn) (first cap : Array Value) (w : World), (Instr.makeFunc fn first cap).run Try.prog w = .ok (.func fn first cap) w := fun _ _ _ _ => rfl
  go_enter_defers Try.func24, Try.ntmps24
  go_wp2_with fail
  refine (ahead_ok s 4 _ (by omega) (by omega)).mono ?_; rintro e w' ⟨rfl, rfl⟩
  go_wp2_with (go_at_call 36; refine (number_at s 0 4 _ (by omega) rfl).mono ?_; rintro e w' ⟨rfl, k, rfl⟩)
  refine (ahead_few s _ _ (by omega)).mono ?_; rintro e w' ⟨rfl, rfl⟩
  go_wp2
  refine leaves_cons (f := 34) (args := #[.pointer (some ⟨w.heap.size, 0, none⟩), .pointer (some ⟨w.heap.size + 1, 0, none⟩), .pointer (some ⟨w.heap.size + 1 + 1, 0, none⟩)]) (by simp) (by simp [go_sem]) ?_
  refine (catch_three w 0 { data := #[] } (4 + (num s 0 : Int) - 4) 0 _ _ _ _).mono ?_
  rintro e u' w'' ⟨rfl, rfl, rfl⟩
  simp [Leaves, settle, results, Try.results24, go_sem, three]
  exact below_drewN (three_below w 0 { data := #[] } 0 4) _

set_option maxHeartbeats 1000000 in
theorem first_ok_bare (s : ByteArray) (w : World) (h : 4 ≤ s.size) (hn : 4 ≤ num s 0) (hn2 : num s 0 ≤ 10004) (hm : num s 0 ≤ s.size) :
    Calls Try.prog 24 #[.string s, .bool true] w fun e w' => e = .returned (.tuple #[.agg #[.int .u8 0, .string ((s.extract 0 (num s 0)).extract 4 (num s 0))], .int .i64 (4 + (num s 0 : Int) - 4), .int .i64 0]) ∧ Below w.heap.size w w' := by
  have hmf : ∀ (fn : Fn) (first cap : Array Value) (w : World), (Instr.makeFunc fn first cap).run Try.prog w = .ok (.func fn first cap) w := fun _ _ _ _ => rfl
  go_enter_defers Try.func24, Try.ntmps24
  go_wp2_with fail
  refine (ahead_ok s 4 _ (by omega) (by omega)).mono ?_; rintro e w' ⟨rfl, rfl⟩
  go_wp2_with (go_at_call 36; refine (number_at s 0 4 _ (by omega) rfl).mono ?_; rintro e w' ⟨rfl, k, rfl⟩)
  refine (ahead_ok s _ _ (by omega) (by omega)).mono ?_; rintro e w' ⟨rfl, rfl⟩
  go_wp2
  go_region
  go_wp2
  refine leaves_cons (f := 34) (args := #[.pointer (some ⟨w.heap.size, 0, none⟩), .pointer (some ⟨w.heap.size + 1, 0, none⟩), .pointer (some ⟨w.heap.size + 1 + 1, 0, none⟩)]) (by simp) (by simp [go_sem]) ?_
  refine (catch_idle1 w.heap.size _).mono ?_
  rintro e u' w'' ⟨rfl, rfl, rfl⟩
  simp [Leaves, settle, results, Try.results24, go_sem]
  exact below_drewN (three_below w 0 ((s.extract 0 (num s 0)).extract 4 (num s 0)) (4 + (num s 0 : Int) - 4) 0) _

set_option maxHeartbeats 1000000 in
theorem first_few (s : ByteArray) (w : World) (h : s.size < 5) :
    Calls Try.prog 24 #[.string s, .bool false] w fun e w' => e = .returned (.tuple #[.agg #[.int .u8 0, .string { data := #[] }], .int .i64 0, .int .i64 4]) ∧ Below w.heap.size w w' := by
  have hmf : ∀ (fn : Fn) (first cap : Array Value) (w : World), (Instr.makeFunc fn first cap).run Try.prog w = .ok (.func fn first cap) w := fun _ _ _ _ => rfl
  go_enter_defers Try.func24, Try.ntmps24
  go_wp2_with fail
  refine (ahead_few s 5 _ (by omega)).mono ?_; rintro e w' ⟨rfl, rfl⟩
  go_wp2
  refine leaves_cons (f := 34) (args := #[.pointer (some ⟨w.heap.size, 0, none⟩), .pointer (some ⟨w.heap.size + 1, 0, none⟩), .pointer (some ⟨w.heap.size + 1 + 1, 0, none⟩)]) (by simp) (by simp [go_sem]) ?_
  refine (catch_three w 0 { data := #[] } 0 0 0 _ _ _).mono ?_
  rintro e u' w'' ⟨rfl, rfl, rfl⟩
  simp [Leaves, settle, results, Try.results24, go_sem, three]
  exact below_drewN (three_below w 0 { data := #[] } 0 4) _

set_option maxHeartbeats 1000000 in
theorem first_formN (t : Nat) (s : ByteArray) (w : World) (h : 5 ≤ s.size) (hx : 0 < (s.extract 0 5).size) (ht : ((s.extract 0 5)[0]'hx).toNat = t) (hn : num s 1 < 4) :
    Calls Try.prog 24 #[.string s, .bool false] w fun e w' => e = .returned (.tuple #[.agg #[.int .u8 0, .string { data := #[] }], .int .i64 0, .int .i64 2]) ∧ Below w.heap.size w w' := by
  have hmf : ∀ (fn : Fn) (first cap : Array Value) (w : World), (Instr.makeFunc fn first cap).run Try.prog w = .ok (.func fn first cap) w := fun _ _ _ _ => rfl
  go_enter_defers Try.func24, Try.ntmps24
  go_wp2_with fail
  refine (ahead_ok s 5 _ (by omega) (by omega)).mono ?_; rintro e w' ⟨rfl, rfl⟩
  go_wp2_with (go_at_call 36; refine (number_at s 1 5 _ (by omega) rfl).mono ?_; rintro e w' ⟨rfl, k, rfl⟩)
  refine leaves_cons (f := 34) (args := #[.pointer (some ⟨w.heap.size, 0, none⟩), .pointer (some ⟨w.heap.size + 1, 0, none⟩), .pointer (some ⟨w.heap.size + 1 + 1, 0, none⟩)]) (by simp) (by simp [go_sem]) ?_
  refine (catch_idle1 w.heap.size _).mono ?_
  rintro e u' w'' ⟨rfl, rfl, rfl⟩
  simp [Leaves, settle, results, Try.results24, go_sem]
  exact below_drewN (three_below w 0 { data := #[] } 0 2) _

set_option maxHeartbeats 1000000 in
theorem first_formT (s : ByteArray) (w : World) (h : 5 ≤ s.size) (hx : 0 < (s.extract 0 5).size) (ht : ((s.extract 0 5)[0]'hx).toNat = 0) (hn : 4 ≤ num s 1) :
    Calls Try.prog 24 #[.string s, .bool false] w fun e w' => e = .returned (.tuple #[.agg #[.int .u8 0, .string { data := #[] }], .int .i64 0, .int .i64 2]) ∧ Below w.heap.size w w' := by
  have hmf : ∀ (fn : Fn) (first cap : Array Value) (w : World), (Instr.makeFunc fn first cap).run Try.prog w = .ok (.func fn first cap) w := fun _ _ _ _ => rfl
  go_enter_defers Try.func24, Try.ntmps24
  go_wp2_with fail
  refine (ahead_ok s 5 _ (by omega) (by omega)).mono ?_; rintro e w' ⟨rfl, rfl⟩
  go_wp2_with (go_at_call 36; refine (number_at s 1 5 _ (by omega) rfl).mono ?_; rintro e w' ⟨rfl, k, rfl⟩)
  refine leaves_cons (f := 34) (args := #[.pointer (some ⟨w.heap.size, 0, none⟩), .pointer (some ⟨w.heap.size + 1, 0, none⟩), .pointer (some ⟨w.heap.size + 1 + 1, 0, none⟩)]) (by simp) (by simp [go_sem]) ?_
  refine (catch_idle1 w.heap.size _).mono ?_
  rintro e u' w'' ⟨rfl, rfl, rfl⟩
  simp [Leaves, settle, results, Try.results24, go_sem]
  exact below_drewN (three_below w 0 { data := #[] } 0 2) _

set_option maxHeartbeats 1000000 in
theorem first_long (t : Nat) (s : ByteArray) (w : World) (h : 5 ≤ s.size) (hx : 0 < (s.extract 0 5).size) (ht : ((s.extract 0 5)[0]'hx).toNat = t) (hn : 10004 < num s 1) (ht0 : 0 < t) :
    Calls Try.prog 24 #[.string s, .bool false] w fun e w' => e = .returned (.tuple #[.agg #[.int .u8 0, .string { data := #[] }], .int .i64 0, .int .i64 3]) ∧ Below w.heap.size w w' := by
  have hmf : ∀ (fn : Fn) (first cap : Array Value) (w : World), (Instr.makeFunc fn first cap).run Try.prog w = .ok (.func fn first cap) w := fun _ _ _ _ => rfl
  have hz : ((t : Int) == 0) = false := by simp; omega
  go_enter_defers Try.func24, Try.ntmps24
  go_wp2_with fail
  refine (ahead_ok s 5 _ (by omega) (by omega)).mono ?_; rintro e w' ⟨rfl, rfl⟩
  go_wp2_with (go_at_call 36; refine (number_at s 1 5 _ (by omega) rfl).mono ?_; rintro e w' ⟨rfl, k, rfl⟩)
  refine leaves_cons (f := 34) (args := #[.pointer (some ⟨w.heap.size, 0, none⟩), .pointer (some ⟨w.heap.size + 1, 0, none⟩), .pointer (some ⟨w.heap.size + 1 + 1, 0, none⟩)]) (by simp) (by simp [go_sem]) ?_
  refine (catch_idle1 w.heap.size _).mono ?_
  rintro e u' w'' ⟨rfl, rfl, rfl⟩
  simp [Leaves, settle, results, Try.results24, go_sem]
  exact below_drewN (three_below w 0 { data := #[] } 0 3) _

set_option maxHeartbeats 1000000 in
theorem first_more (t : Nat) (s : ByteArray) (w : World) (h : 5 ≤ s.size) (hx : 0 < (s.extract 0 5).size) (ht : ((s.extract 0 5)[0]'hx).toNat = t) (hn : 4 ≤ num s 1) (hn2 : num s 1 ≤ 10004) (ht0 : 0 < t) (hm : s.size < num s 1 + 1) :
    Calls Try.prog 24 #[.string s, .bool false] w fun e w' => e = .returned (.tuple #[.agg #[.int .u8 0, .string { data := #[] }], .int .i64 0, .int .i64 4]) ∧ Below w.heap.size w w' := by
  have hmf : ∀ (fn : Fn) (first cap : Array Value) (w : World), (Instr.makeFunc fn first cap).run Try.prog w = .ok (.func fn first cap) w := fun _ _ _ _ => rfl
  have hz : ((t : Int) == 0) = false := by simp; omega
  go_enter_defers Try.func24, Try.ntmps24
  go_wp2_with fail
  refine (ahead_ok s 5 _ (by omega) (by omega)).mono ?_; rintro e w' ⟨rfl, rfl⟩
  go_wp2_with (go_at_call 36; refine (number_at s 1 5 _ (by omega) rfl).mono ?_; rintro e w' ⟨rfl, k, rfl⟩)
  refine (ahead_few s _ _ (by omega)).mono ?_; rintro e w' ⟨rfl, rfl⟩
  go_wp2
  refine leaves_cons (f := 34) (args := #[.pointer (some ⟨w.heap.size, 0, none⟩), .pointer (some ⟨w.heap.size + 1, 0, none⟩), .pointer (some ⟨w.heap.size + 1 + 1, 0, none⟩)]) (by simp) (by simp [go_sem]) ?_
  refine (catch_three w t { data := #[] } (5 + (num s 1 : Int) - 4) 0 _ _ _ _).mono ?_
  rintro e u' w'' ⟨rfl, rfl, rfl⟩
  simp [Leaves, settle, results, Try.results24, go_sem, three]
  exact below_drewN (three_below w 0 { data := #[] } 0 4) _

set_option maxHeartbeats 1000000 in
theorem first_ok (t : Nat) (s : ByteArray) (w : World) (h : 5 ≤ s.size) (hx : 0 < (s.extract 0 5).size) (ht : ((s.extract 0 5)[0]'hx).toNat = t) (hn : 4 ≤ num s 1) (hn2 : num s 1 ≤ 10004) (ht0 : 0 < t) (hm : num s 1 + 1 ≤ s.size) :
    Calls Try.prog 24 #[.string s, .bool false] w fun e w' => e = .returned (.tuple #[.agg #[.int .u8 (t : Nat), .string ((s.extract 0 (5 + num s 1 - 4)).extract 5 (min (5 + num s 1 - 4) s.size))], .int .i64 (5 + (num s 1 : Int) - 4), .int .i64 0]) ∧ Below w.heap.size w w' := by
  have hmf : ∀ (fn : Fn) (first cap : Array Value) (w : World), (Instr.makeFunc fn first cap).run Try.prog w = .ok (.func fn first cap) w := fun _ _ _ _ => rfl
  have hz : ((t : Int) == 0) = false := by simp; omega
  go_enter_defers Try.func24, Try.ntmps24
  go_wp2_with fail
  refine (ahead_ok s 5 _ (by omega) (by omega)).mono ?_; rintro e w' ⟨rfl, rfl⟩
  go_wp2_with (go_at_call 36; refine (number_at s 1 5 _ (by omega) rfl).mono ?_; rintro e w' ⟨rfl, k, rfl⟩)
  refine (ahead_ok s _ _ (by omega) (by omega)).mono ?_; rintro e w' ⟨rfl, rfl⟩
  go_wp2
  go_region
  go_wp2
  refine leaves_cons (f := 34) (args := #[.pointer (some ⟨w.heap.size, 0, none⟩), .pointer (some ⟨w.heap.size + 1, 0, none⟩), .pointer (some ⟨w.heap.size + 1 + 1, 0, none⟩)]) (by simp) (by simp [go_sem]) ?_
  refine (catch_idle1 w.heap.size _).mono ?_
  rintro e u' w'' ⟨rfl, rfl, rfl⟩
  simp [Leaves, settle, results, Try.results24, go_sem]
  exact below_drewN (three_below w (t : Nat) ((s.extract 0 (5 + num s 1 - 4)).extract 5 (min (5 + num s 1 - 4) s.size)) (5 + (num s 1 : Int) - 4) 0) _

end Go.Proofs.Ytfdffiphlpeegaa
