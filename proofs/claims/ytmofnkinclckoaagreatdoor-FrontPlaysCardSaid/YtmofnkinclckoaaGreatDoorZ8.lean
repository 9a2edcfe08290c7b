/- Contracts and mathematics: FirstB. -/
import Derived.Test.YtmofnkinclckoaaGreatDoorRows
import Derived.Test.YtmofnkinclckoaaGreatDoorZ7
import Derived.BigQuiet
import Derived.Deep.QuietTactic
import Derived.RegionTactic
import Derived.Defers
import Derived.Recover
import Derived.WalkLawsBesides
import Derived.WalkSpells
namespace Go.Proofs.YtmofnkinclckoaaGreatDoor
open Go.RowKit Go.Lib

theorem aheadB_ok (a : Addr) (len cap : Nat) (n : Int) (w : World) (h0 : 0 ≤ n) (h : n ≤ len) (hc : len ≤ cap) :
    Calls Tryz.prog 31 #[.slice (some a) len cap, .int .i64 n] w fun e w' => e = .returned (.slice (some a) n.toNat cap) ∧ w = w' := by
  obtain ⟨m, rfl⟩ := Int.eq_ofNat_of_zero_le h0
  have h1 : ¬ (len : Int) < m := by omega
  go_enter Tryz.func31, Tryz.ntmps31
  go_wp2
  go_ret
  exact ⟨rfl, rfl⟩

theorem aheadB_few (a : Option Addr) (len cap : Nat) (n : Int) (w : World) (h : (len : Int) < n) :
    Calls Tryz.prog 31 #[.slice a len cap, .int .i64 n] w fun e w' => e = .panicked [{ v := .iface 40 (.int .i64 4), recovered := false }] ∧ w = w' := by
  go_enter Tryz.func31, Tryz.ntmps31
  go_wp2
  exact ⟨rfl, rfl, rfl⟩

theorem numberB_any (g o len cap : Nat) (b0 b1 b2 b3 : UInt8) (w : World) (h : 4 ≤ len)
    (c0 : w.cell? ⟨g, o, none⟩ = some (.int .u8 b0.toNat)) (c1 : w.cell? ⟨g, o + 1, none⟩ = some (.int .u8 b1.toNat)) (c2 : w.cell? ⟨g, o + 2, none⟩ = some (.int .u8 b2.toNat)) (c3 : w.cell? ⟨g, o + 3, none⟩ = some (.int .u8 b3.toNat)) :
    Calls Tryz.prog 32 #[.slice (some ⟨g, o, none⟩) len cap] w fun e w' => e = .returned (.int .u32 (big4 [b0, b1, b2, b3] : Nat)) ∧ ∃ k, w' = w.drewN k := by
  have a0 : 0 < len := by omega
  have a1 : (1 : Int) < len := by omega
  have a2 : (2 : Int) < len := by omega
  have a3 : (3 : Int) < len := by omega
  have HV := Lib.hid (four_or b0 b1 b2 b3)
  go_enter Tryz.func32, Tryz.ntmps32
  go_wp2
  go_quiet (fail)
  go_wp2
  go_ret
  exact ⟨congrArg (fun n => Ending.returned (.int .u32 n)) HV.out, _, rfl⟩
/-! cases -/
theorem catchB_panicking (b : Nat) (x0 x1 x2 x3 : Value) (u : TypeId) (pv : Value) (older : List PanicEntry) (w : World)
    (c0 : w.cell? ⟨b, 0, none⟩ = some x0) (c1 : w.cell? ⟨b, 1, none⟩ = some x1) (c2 : w.cell? ⟨b + 1, 0, none⟩ = some x2) (c3 : w.cell? ⟨b + 1 + 1, 0, none⟩ = some x3)
    (f0 : w.frozen? ⟨b, 0, none⟩ = false) (f1 : w.frozen? ⟨b, 1, none⟩ = false) (f2 : w.frozen? ⟨b + 1, 0, none⟩ = false) (f3 : w.frozen? ⟨b + 1 + 1, 0, none⟩ = false) :
    CallsD Tryz.prog 30 #[.pointer (some ⟨b, 0, none⟩), .pointer (some ⟨b + 1, 0, none⟩), .pointer (some ⟨b + 1 + 1, 0, none⟩)] (.panicking ({ v := .iface u pv, recovered := false } :: older)) w fun e u' w' =>
      e = .returned (.tuple #[]) ∧ u' = .panicking ({ v := .iface u pv, recovered := true } :: older) ∧
        w' = (((w.setCell ⟨b, 0, none⟩ (.int .u8 0)).setCell ⟨b, 1, none⟩ (.string { data := #[] })).setCell ⟨b + 1, 0, none⟩ (.int .i64 0)).setCell ⟨b + 1 + 1, 0, none⟩ (.int .i64 4) := by
  refine callsD_of_wpS Tryz.func30 rfl fun c₀ cs hu => ?_
  apply wpS_seq
  apply wpS_region
  simp [wpOpsS, go_sem, recoverD, hu, Tryz.ntmps30, Exit.thenS]
  refine wpS_cond (t := true) (by simp [Act.eval, Array.replicate]) ?_
  simp only [if_true]
  apply wpS_region
  simp [wpOpsS, go_sem, c0, c1, c2, c3, f0, f1, f2, f3, bodyPostS, results, Tryz.results30]

theorem catchB_idle (b : Nat) (w : World) :
    CallsD Tryz.prog 30 #[.pointer (some ⟨b, 0, none⟩), .pointer (some ⟨b + 1, 0, none⟩), .pointer (some ⟨b + 1 + 1, 0, none⟩)] .returning w fun e u' w' => e = .returned (.tuple #[]) ∧ u' = .returning ∧ w' = w := by
  refine callsD_of_wpS Tryz.func30 rfl fun c₀ cs hu => ?_
  apply wpS_seq
  apply wpS_region
  simp [wpOpsS, go_sem, recoverD, hu, Tryz.ntmps30, Exit.thenS]
  refine wpS_cond (t := false) (by simp [Act.eval, Array.replicate]) ?_
  simp only [Bool.false_eq_true, if_false]
  refine wpS_of_wp (wp_skip ?_)
  cases c₀
  simp_all [bodyPostS, results, Tryz.results30]

@[go_sem, simp] theorem setCell_drewNB (w : World) (k : Nat) (a : Addr) (v : Value) : (w.drewN k).setCell a v = (w.setCell a v).drewN k := rfl

/-- The three blocks that the results lie in. -/
def threeB (w : World) (t : Int) (s : ByteArray) (n e : Int) : World :=
  ((w.alloc (.cells #[.int .u8 t, .string s] 50)).alloc (.cells #[.int .i64 n] 3)).alloc (.cells #[.int .i64 e] 40)

theorem threeB_below (w : World) (t : Int) (s : ByteArray) (n e : Int) : Below w.heap.size w (threeB w t s n e) :=
  (((Below.refl _ _).alloc (Nat.le_refl _) _).alloc (by simp) _).alloc (by simp; omega) _

theorem catchB_three (w : World) (t : Int) (s : ByteArray) (n e : Int) (k : Nat) (u : TypeId) (pv : Value) (older : List PanicEntry) :
    CallsD Tryz.prog 30 #[.pointer (some ⟨w.heap.size, 0, none⟩), .pointer (some ⟨w.heap.size + 1, 0, none⟩), .pointer (some ⟨w.heap.size + 1 + 1, 0, none⟩)] (.panicking ({ v := .iface u pv, recovered := false } :: older)) ((threeB w t s n e).drewN k) fun e u' w' =>
      e = .returned (.tuple #[]) ∧ u' = .panicking ({ v := .iface u pv, recovered := true } :: older) ∧ w' = (threeB w 0 { data := #[] } 0 4).drewN k := by
  refine (catchB_panicking w.heap.size (.int .u8 t) (.string s) (.int .i64 n) (.int .i64 e) u pv older _ ?_ ?_ ?_ ?_ ?_ ?_ ?_ ?_).mono ?_
  all_goals try simp [threeB, go_sem]

theorem threeB_cell (w : World) (t : Int) (s : ByteArray) (n e : Int) (k g o : Nat) (hg : g < w.heap.size) : ((threeB w t s n e).drewN k).cell? ⟨g, o, none⟩ = w.cell? ⟨g, o, none⟩ := by
  show (threeB w t s n e).cell? ⟨g, o, none⟩ = _
  exact (World.cell?_alloc_past _ _ _ (by simp; omega)).trans ((World.cell?_alloc_past _ _ _ (by simp; omega)).trans (World.cell?_alloc_past _ _ _ hg))

/-- The bytes of s lie in block g from place o on. -/
def Lies (w : World) (g o : Nat) (s : ByteArray) : Prop := ∀ i, i < s.size → w.cell? ⟨g, o + i, none⟩ = (cellsOf s.data.toList)[i]?

theorem Lies.at {w : World} {g o : Nat} {s : ByteArray} (h : Lies w g o s) (i : Nat) (hi : i < s.size) : w.cell? ⟨g, o + i, none⟩ = some (.int .u8 (s[i].toNat : Int)) := by
  rw [h i hi, cellsOf, List.getElem?_map, List.getElem?_eq_getElem (by rw [size_list]; exact hi)]
  rfl

theorem num_four (s : ByteArray) (a : Nat) (h : a + 4 ≤ s.size) : big4 [s[a], s[a + 1], s[a + 2], s[a + 3]] = num s a := by
  have hl := size_list s
  have d (i : Nat) (hi : i < s.size) : s.data.toList.drop i = s[i] :: s.data.toList.drop (i + 1) := by
    rw [List.drop_eq_getElem_cons (by omega)]; rfl
  unfold num
  rw [d a (by omega), d (a + 1) (by omega), d (a + 1 + 1) (by omega), d (a + 1 + 1 + 1) (by omega)]
  rfl

/-- The number that stands at place a of what lies there. -/
theorem numberB_at (g o a len cap : Nat) (s : ByteArray) (w : World) (hs : Lies w g o s) (h : a + 4 ≤ s.size) (hl : 4 ≤ len) (W : World) (hW : ∀ i, W.cell? ⟨g, i, none⟩ = w.cell? ⟨g, i, none⟩) :
    Calls Tryz.prog 32 #[.slice (some ⟨g, o + a, none⟩) len cap] W fun e w' => e = .returned (.int .u32 (num s a : Nat)) ∧ ∃ k, w' = W.drewN k := by
  have := numberB_any g (o + a) len cap s[a] s[a + 1] s[a + 2] s[a + 3] W hl ((hW _).trans (hs.at a (by omega))) ((hW _).trans (hs.at (a + 1) (by omega))) ((hW _).trans (hs.at (a + 2) (by omega))) ((hW _).trans (hs.at (a + 3) (by omega)))
  rw [num_four s a h] at this
  exact this

/-- A part of what lies there, turned into a text. -/
theorem convB (g o a n cap : Nat) (s : ByteArray) (w : World) (hs : Lies w g o s) (h : a + n ≤ s.size) (W : World) (hW : ∀ i, W.cell? ⟨g, i, none⟩ = w.cell? ⟨g, i, none⟩) :
    (convert 65 9 (.slice (some ⟨g, o + a, none⟩) n cap)).run Tryz.prog W = .ok (.string (s.extract a (a + n))) W := by
  have hl : (s.extract a (a + n)).data.toList.length = n := by rw [size_list]; simp; omega
  have := conv_cells (P := Tryz.prog) (w := W) Tryz.underlying65 Tryz.underlying5 Tryz.underlying9 g (o + a) cap (s.extract a (a + n)).data.toList (fun i hi => by
    rw [hl] at hi
    rw [hW, Nat.add_assoc, hs (a + i) (by omega), cellsOf, cellsOf, List.getElem?_map, List.getElem?_map, extract_data, List.getElem?_take_of_lt (by omega), List.getElem?_drop])
  rw [hl] at this
  exact this

set_option maxHeartbeats 1000000 in
theorem firstB_few_bare (a : Option Addr) (len cap : Nat) (w : World) (h : len < 4) :
    Calls Tryz.prog 23 #[.slice a len cap, .bool true] w fun e w' => e = .returned (.tuple #[.agg #[.int .u8 0, .string { data := #[] }], .int .i64 0, .int .i64 4]) ∧ Below w.heap.size w w' := by
  have hmf : ∀ (fn : Fn) (first cap : Array Value) (w : World), (Instr.makeFunc fn first cap).run Tryz.prog w = .ok (.func fn first cap) w := fun _ _ _ _ => rfl
  go_enter_defers Tryz.func23, Tryz.ntmps23
  go_wp2_with fail
  refine (aheadB_few _ _ _ 4 _ (by omega)).mono ?_; rintro e w' ⟨rfl, rfl⟩
  go_wp2
  refine leaves_cons (f := 30) (args := #[.pointer (some ⟨w.heap.size, 0, none⟩), .pointer (some ⟨w.heap.size + 1, 0, none⟩), .pointer (some ⟨w.heap.size + 1 + 1, 0, none⟩)]) (by simp) (by simp [go_sem]) ?_
  refine (catchB_three w 0 { data := #[] } 0 0 0 _ _ _).mono ?_
  rintro e u' w'' ⟨rfl, rfl, rfl⟩
  simp [Leaves, settle, results, Tryz.results23, go_sem, threeB]
  exact below_drewN (threeB_below w 0 { data := #[] } 0 4) _

set_option maxHeartbeats 1000000 in
theorem firstB_few (a : Option Addr) (len cap : Nat) (w : World) (h : len < 5) :
    Calls Tryz.prog 23 #[.slice a len cap, .bool false] w fun e w' => e = .returned (.tuple #[.agg #[.int .u8 0, .string { data := #[] }], .int .i64 0, .int .i64 4]) ∧ Below w.heap.size w w' := by
  have hmf : ∀ (fn : Fn) (first cap : Array Value) (w : World), (Instr.makeFunc fn first cap).run Tryz.prog w = .ok (.func fn first cap) w := fun _ _ _ _ => rfl
  go_enter_defers Tryz.func23, Tryz.ntmps23
  go_wp2_with fail
  refine (aheadB_few _ _ _ 5 _ (by omega)).mono ?_; rintro e w' ⟨rfl, rfl⟩
  go_wp2
  refine leaves_cons (f := 30) (args := #[.pointer (some ⟨w.heap.size, 0, none⟩), .pointer (some ⟨w.heap.size + 1, 0, none⟩), .pointer (some ⟨w.heap.size + 1 + 1, 0, none⟩)]) (by simp) (by simp [go_sem]) ?_
  refine (catchB_three w 0 { data := #[] } 0 0 0 _ _ _).mono ?_
  rintro e u' w'' ⟨rfl, rfl, rfl⟩
  simp [Leaves, settle, results, Tryz.results23, go_sem, threeB]
  exact below_drewN (threeB_below w 0 { data := #[] } 0 4) _

set_option maxHeartbeats 1000000 in
theorem firstB_form_bare (g o cap : Nat) (s : ByteArray) (w : World) (hs : Hid (Lies w g o s)) (hg : g < w.heap.size) (hcap : s.size ≤ cap) (h : 4 ≤ s.size) (hn : num s 0 < 4) :
    Calls Tryz.prog 23 #[.slice (some ⟨g, o, none⟩) s.size cap, .bool true] w fun e w' => e = .returned (.tuple #[.agg #[.int .u8 0, .string { data := #[] }], .int .i64 0, .int .i64 2]) ∧ Below w.heap.size w w' := by
  have hmf : ∀ (fn : Fn) (first cap : Array Value) (w : World), (Instr.makeFunc fn first cap).run Tryz.prog w = .ok (.func fn first cap) w := fun _ _ _ _ => rfl
  go_enter_defers Tryz.func23, Tryz.ntmps23
  go_wp2_with fail
  refine (aheadB_ok _ _ _ 4 _ (by omega) (by omega) (by omega)).mono ?_; rintro e w' ⟨rfl, rfl⟩
  go_wp2_with (go_at_call 32; refine (numberB_at g o 0 _ _ s w hs.out (by omega) (by omega) _ (by intro i; exact threeB_cell w 0 { data := #[] } 0 0 0 g i hg)).mono ?_; rintro e w' ⟨rfl, k, rfl⟩)
  refine leaves_cons (f := 30) (args := #[.pointer (some ⟨w.heap.size, 0, none⟩), .pointer (some ⟨w.heap.size + 1, 0, none⟩), .pointer (some ⟨w.heap.size + 1 + 1, 0, none⟩)]) (by simp) (by simp [go_sem]) ?_
  refine (catchB_idle w.heap.size _).mono ?_
  rintro e u' w'' ⟨rfl, rfl, rfl⟩
  simp [Leaves, settle, results, Tryz.results23, go_sem]
  exact below_drewN (threeB_below w 0 { data := #[] } 0 2) _

set_option maxHeartbeats 1000000 in
theorem firstB_long_bare (g o cap : Nat) (s : ByteArray) (w : World) (hs : Hid (Lies w g o s)) (hg : g < w.heap.size) (hcap : s.size ≤ cap) (h : 4 ≤ s.size) (hn : 10004 < num s 0) :
    Calls Tryz.prog 23 #[.slice (some ⟨g, o, none⟩) s.size cap, .bool true] w fun e w' => e = .returned (.tuple #[.agg #[.int .u8 0, .string { data := #[] }], .int .i64 0, .int .i64 3]) ∧ Below w.heap.size w w' := by
  have hmf : ∀ (fn : Fn) (first cap : Array Value) (w : World), (Instr.makeFunc fn first cap).run Tryz.prog w = .ok (.func fn first cap) w := fun _ _ _ _ => rfl
  go_enter_defers Tryz.func23, Tryz.ntmps23
  go_wp2_with fail
  refine (aheadB_ok _ _ _ 4 _ (by omega) (by omega) (by omega)).mono ?_; rintro e w' ⟨rfl, rfl⟩
  go_wp2_with (go_at_call 32; refine (numberB_at g o 0 _ _ s w hs.out (by omega) (by omega) _ (by intro i; exact threeB_cell w 0 { data := #[] } 0 0 0 g i hg)).mono ?_; rintro e w' ⟨rfl, k, rfl⟩)
  refine leaves_cons (f := 30) (args := #[.pointer (some ⟨w.heap.size, 0, none⟩), .pointer (some ⟨w.heap.size + 1, 0, none⟩), .pointer (some ⟨w.heap.size + 1 + 1, 0, none⟩)]) (by simp) (by simp [go_sem]) ?_
  refine (catchB_idle w.heap.size _).mono ?_
  rintro e u' w'' ⟨rfl, rfl, rfl⟩
  simp [Leaves, settle, results, Tryz.results23, go_sem]
  exact below_drewN (threeB_below w 0 { data := #[] } 0 3) _

set_option maxHeartbeats 1000000 in
theorem firstB_more_bare (g o cap : Nat) (s : ByteArray) (w : World) (hs : Hid (Lies w g o s)) (hg : g < w.heap.size) (hcap : s.size ≤ cap) (h : 4 ≤ s.size) (hn : 4 ≤ num s 0) (hn2 : num s 0 ≤ 10004) (hm : s.size < num s 0) :
    Calls Tryz.prog 23 #[.slice (some ⟨g, o, none⟩) s.size cap, .bool true] w fun e w' => e = .returned (.tuple #[.agg #[.int .u8 0, .string { data := #[] }], .int .i64 0, .int .i64 4]) ∧ Below w.heap.size w w' := by
  have hmf : ∀ (fn : Fn) (first cap : Array Value) (w : World), (Instr.makeFunc fn first cap).run Tryz.prog w = .ok (.func fn first cap) w := fun _ _ _ _ => rfl
  go_enter_defers Tryz.func23, Tryz.ntmps23
  go_wp2_with fail
  refine (aheadB_ok _ _ _ 4 _ (by omega) (by omega) (by omega)).mono ?_; rintro e w' ⟨rfl, rfl⟩
  go_wp2_with (go_at_call 32; refine (numberB_at g o 0 _ _ s w hs.out (by omega) (by omega) _ (by intro i; exact threeB_cell w 0 { data := #[] } 0 0 0 g i hg)).mono ?_; rintro e w' ⟨rfl, k, rfl⟩)
  refine (aheadB_few _ _ _ _ _ (by omega)).mono ?_; rintro e w' ⟨rfl, rfl⟩
  go_wp2
  refine leaves_cons (f := 30) (args := #[.pointer (some ⟨w.heap.size, 0, none⟩), .pointer (some ⟨w.heap.size + 1, 0, none⟩), .pointer (some ⟨w.heap.size + 1 + 1, 0, none⟩)]) (by simp) (by simp [go_sem]) ?_
  refine (catchB_three w 0 { data := #[] } (4 + (num s 0 : Int) - 4) 0 _ _ _ _).mono ?_
  rintro e u' w'' ⟨rfl, rfl, rfl⟩
  simp [Leaves, settle, results, Tryz.results23, go_sem, threeB]
  exact below_drewN (threeB_below w 0 { data := #[] } 0 4) _

set_option maxHeartbeats 1000000 in
theorem firstB_formN (t g o cap : Nat) (s : ByteArray) (w : World) (hs : Hid (Lies w g o s)) (hg : g < w.heap.size) (hcap : s.size ≤ cap) (h : 5 ≤ s.size) (hx : 0 < s.size) (ht : (s[0]'hx).toNat = t) (hn : num s 1 < 4) :
    Calls Tryz.prog 23 #[.slice (some ⟨g, o, none⟩) s.size cap, .bool false] w fun e w' => e = .returned (.tuple #[.agg #[.int .u8 0, .string { data := #[] }], .int .i64 0, .int .i64 2]) ∧ Below w.heap.size w w' := by
  have hmf : ∀ (fn : Fn) (first cap : Array Value) (w : World), (Instr.makeFunc fn first cap).run Tryz.prog w = .ok (.func fn first cap) w := fun _ _ _ _ => rfl
  have hc0 : w.cell? ⟨g, o, none⟩ = some (.int .u8 t) := by have := hs.out.at 0 hx; rw [ht] at this; exact this
  have hg1 : g < w.heap.size + 1 := by omega
  have hg2 : g < w.heap.size + 1 + 1 := by omega
  go_enter_defers Tryz.func23, Tryz.ntmps23
  go_wp2_with fail
  refine (aheadB_ok _ _ _ 5 _ (by omega) (by omega) (by omega)).mono ?_; rintro e w' ⟨rfl, rfl⟩
  go_wp2_with (go_at_call 32; refine (numberB_at g o 1 _ _ s w hs.out (by omega) (by omega) _ (by intro i; exact threeB_cell w 0 { data := #[] } 0 0 0 g i hg)).mono ?_; rintro e w' ⟨rfl, k, rfl⟩)
  refine leaves_cons (f := 30) (args := #[.pointer (some ⟨w.heap.size, 0, none⟩), .pointer (some ⟨w.heap.size + 1, 0, none⟩), .pointer (some ⟨w.heap.size + 1 + 1, 0, none⟩)]) (by simp) (by simp [go_sem]) ?_
  refine (catchB_idle w.heap.size _).mono ?_
  rintro e u' w'' ⟨rfl, rfl, rfl⟩
  simp [Leaves, settle, results, Tryz.results23, go_sem]
  exact below_drewN (threeB_below w 0 { data := #[] } 0 2) _

set_option maxHeartbeats 1000000 in
theorem firstB_formT (g o cap : Nat) (s : ByteArray) (w : World) (hs : Hid (Lies w g o s)) (hg : g < w.heap.size) (hcap : s.size ≤ cap) (h : 5 ≤ s.size) (hx : 0 < s.size) (ht : (s[0]'hx).toNat = 0) (hn : 4 ≤ num s 1) :
    Calls Tryz.prog 23 #[.slice (some ⟨g, o, none⟩) s.size cap, .bool false] w fun e w' => e = .returned (.tuple #[.agg #[.int .u8 0, .string { data := #[] }], .int .i64 0, .int .i64 2]) ∧ Below w.heap.size w w' := by
  have hmf : ∀ (fn : Fn) (first cap : Array Value) (w : World), (Instr.makeFunc fn first cap).run Tryz.prog w = .ok (.func fn first cap) w := fun _ _ _ _ => rfl
  have hc0 : w.cell? ⟨g, o, none⟩ = some (.int .u8 0) := by have := hs.out.at 0 hx; rw [ht] at this; exact this
  have hg1 : g < w.heap.size + 1 := by omega
  have hg2 : g < w.heap.size + 1 + 1 := by omega
  go_enter_defers Tryz.func23, Tryz.ntmps23
  go_wp2_with fail
  refine (aheadB_ok _ _ _ 5 _ (by omega) (by omega) (by omega)).mono ?_; rintro e w' ⟨rfl, rfl⟩
  go_wp2_with (go_at_call 32; refine (numberB_at g o 1 _ _ s w hs.out (by omega) (by omega) _ (by intro i; exact threeB_cell w 0 { data := #[] } 0 0 0 g i hg)).mono ?_; rintro e w' ⟨rfl, k, rfl⟩)
  refine leaves_cons (f := 30) (args := #[.pointer (some ⟨w.heap.size, 0, none⟩), .pointer (some ⟨w.heap.size + 1, 0, none⟩), .pointer (some ⟨w.heap.size + 1 + 1, 0, none⟩)]) (by simp) (by simp [go_sem]) ?_
  refine (catchB_idle w.heap.size _).mono ?_
  rintro e u' w'' ⟨rfl, rfl, rfl⟩
  simp [Leaves, settle, results, Tryz.results23, go_sem]
  exact below_drewN (threeB_below w 0 { data := #[] } 0 2) _

set_option maxHeartbeats 1000000 in
theorem firstB_long (t g o cap : Nat) (s : ByteArray) (w : World) (hs : Hid (Lies w g o s)) (hg : g < w.heap.size) (hcap : s.size ≤ cap) (h : 5 ≤ s.size) (hx : 0 < s.size) (ht : (s[0]'hx).toNat = t) (hn : 10004 < num s 1) (ht0 : 0 < t) :
    Calls Tryz.prog 23 #[.slice (some ⟨g, o, none⟩) s.size cap, .bool false] w fun e w' => e = .returned (.tuple #[.agg #[.int .u8 0, .string { data := #[] }], .int .i64 0, .int .i64 3]) ∧ Below w.heap.size w w' := by
  have hmf : ∀ (fn : Fn) (first cap : Array Value) (w : World), (Instr.makeFunc fn first cap).run Tryz.prog w = .ok (.func fn first cap) w := fun _ _ _ _ => rfl
  have hc0 : w.cell? ⟨g, o, none⟩ = some (.int .u8 t) := by have := hs.out.at 0 hx; rw [ht] at this; exact this
  have hg1 : g < w.heap.size + 1 := by omega
  have hg2 : g < w.heap.size + 1 + 1 := by omega
  have hz : ((t : Int) == 0) = false := by simp; omega
  go_enter_defers Tryz.func23, Tryz.ntmps23
  go_wp2_with fail
  refine (aheadB_ok _ _ _ 5 _ (by omega) (by omega) (by omega)).mono ?_; rintro e w' ⟨rfl, rfl⟩
  go_wp2_with (go_at_call 32; refine (numberB_at g o 1 _ _ s w hs.out (by omega) (by omega) _ (by intro i; exact threeB_cell w 0 { data := #[] } 0 0 0 g i hg)).mono ?_; rintro e w' ⟨rfl, k, rfl⟩)
  refine leaves_cons (f := 30) (args := #[.pointer (some ⟨w.heap.size, 0, none⟩), .pointer (some ⟨w.heap.size + 1, 0, none⟩), .pointer (some ⟨w.heap.size + 1 + 1, 0, none⟩)]) (by simp) (by simp [go_sem]) ?_
  refine (catchB_idle w.heap.size _).mono ?_
  rintro e u' w'' ⟨rfl, rfl, rfl⟩
  simp [Leaves, settle, results, Tryz.results23, go_sem]
  exact below_drewN (threeB_below w 0 { data := #[] } 0 3) _

set_option maxHeartbeats 1000000 in
theorem firstB_more (t g o cap : Nat) (s : ByteArray) (w : World) (hs : Hid (Lies w g o s)) (hg : g < w.heap.size) (hcap : s.size ≤ cap) (h : 5 ≤ s.size) (hx : 0 < s.size) (ht : (s[0]'hx).toNat = t) (hn : 4 ≤ num s 1) (hn2 : num s 1 ≤ 10004) (ht0 : 0 < t) (hm : s.size < num s 1 + 1) :
    Calls Tryz.prog 23 #[.slice (some ⟨g, o, none⟩) s.size cap, .bool false] w fun e w' => e = .returned (.tuple #[.agg #[.int .u8 0, .string { data := #[] }], .int .i64 0, .int .i64 4]) ∧ Below w.heap.size w w' := by
  have hmf : ∀ (fn : Fn) (first cap : Array Value) (w : World), (Instr.makeFunc fn first cap).run Tryz.prog w = .ok (.func fn first cap) w := fun _ _ _ _ => rfl
  have hc0 : w.cell? ⟨g, o, none⟩ = some (.int .u8 t) := by have := hs.out.at 0 hx; rw [ht] at this; exact this
  have hg1 : g < w.heap.size + 1 := by omega
  have hg2 : g < w.heap.size + 1 + 1 := by omega
  have hz : ((t : Int) == 0) = false := by simp; omega
  go_enter_defers Tryz.func23, Tryz.ntmps23
  go_wp2_with fail
  refine (aheadB_ok _ _ _ 5 _ (by omega) (by omega) (by omega)).mono ?_; rintro e w' ⟨rfl, rfl⟩
  go_wp2_with (go_at_call 32; refine (numberB_at g o 1 _ _ s w hs.out (by omega) (by omega) _ (by intro i; exact threeB_cell w 0 { data := #[] } 0 0 0 g i hg)).mono ?_; rintro e w' ⟨rfl, k, rfl⟩)
  refine (aheadB_few _ _ _ _ _ (by omega)).mono ?_; rintro e w' ⟨rfl, rfl⟩
  go_wp2
  refine leaves_cons (f := 30) (args := #[.pointer (some ⟨w.heap.size, 0, none⟩), .pointer (some ⟨w.heap.size + 1, 0, none⟩), .pointer (some ⟨w.heap.size + 1 + 1, 0, none⟩)]) (by simp) (by simp [go_sem]) ?_
  refine (catchB_three w t { data := #[] } (5 + (num s 1 : Int) - 4) 0 _ _ _ _).mono ?_
  rintro e u' w'' ⟨rfl, rfl, rfl⟩
  simp [Leaves, settle, results, Tryz.results23, go_sem, threeB]
  exact below_drewN (threeB_below w 0 { data := #[] } 0 4) _

set_option maxHeartbeats 1000000 in
theorem firstB_ok_bare (g o cap : Nat) (s r : ByteArray) (w : World) (hs : Hid (Lies w g o s)) (hg : g < w.heap.size) (hcap : s.size ≤ cap) (h : 4 ≤ s.size) (hn : 4 ≤ num s 0) (hn2 : num s 0 ≤ 10004) (hm : num s 0 ≤ s.size) (hc4 : ¬ cap = 4) (hr : Hid (s.extract 4 (4 + (num s 0 - 4)) = r)) :
    Calls Tryz.prog 23 #[.slice (some ⟨g, o, none⟩) s.size cap, .bool true] w fun e w' => e = .returned (.tuple #[.agg #[.int .u8 0, .string r], .int .i64 (4 + (num s 0 : Int) - 4), .int .i64 0]) ∧ Below w.heap.size w w' := by
  have hmf : ∀ (fn : Fn) (first cap : Array Value) (w : World), (Instr.makeFunc fn first cap).run Tryz.prog w = .ok (.func fn first cap) w := fun _ _ _ _ => rfl
  go_enter_defers Tryz.func23, Tryz.ntmps23
  go_wp2_with fail
  refine (aheadB_ok _ _ _ 4 _ (by omega) (by omega) (by omega)).mono ?_; rintro e w' ⟨rfl, rfl⟩
  go_wp2_with (go_at_call 32; refine (numberB_at g o 0 _ _ s w hs.out (by omega) (by omega) _ (by intro i; exact threeB_cell w 0 { data := #[] } 0 0 0 g i hg)).mono ?_; rintro e w' ⟨rfl, k, rfl⟩)
  refine (aheadB_ok _ _ _ _ _ (by omega) (by omega) (by omega)).mono ?_; rintro e w' ⟨rfl, rfl⟩
  have hcv := convB g o 4 (num s 0 - 4) (cap - 4) s w hs.out (by omega) ((threeB w 0 { data := #[] } (4 + (num s 0 : Int) - 4) 0).drewN k) (fun i => threeB_cell w _ _ _ 0 k g i hg)
  rw [hr.out] at hcv
  simp only [threeB] at hcv
  go_wp2
  go_region
  go_wp2
  refine leaves_cons (f := 30) (args := #[.pointer (some ⟨w.heap.size, 0, none⟩), .pointer (some ⟨w.heap.size + 1, 0, none⟩), .pointer (some ⟨w.heap.size + 1 + 1, 0, none⟩)]) (by simp) (by simp [go_sem]) ?_
  refine (catchB_idle w.heap.size _).mono ?_
  rintro e u' w'' ⟨rfl, rfl, rfl⟩
  simp [Leaves, settle, results, Tryz.results23, go_sem]
  exact below_drewN (threeB_below w 0 r (4 + (num s 0 : Int) - 4) 0) _

set_option maxHeartbeats 1000000 in
theorem firstB_ok (t g o cap : Nat) (s r : ByteArray) (w : World) (hs : Hid (Lies w g o s)) (hg : g < w.heap.size) (hcap : s.size ≤ cap) (h : 5 ≤ s.size) (hx : 0 < s.size) (ht : (s[0]'hx).toNat = t) (hn : 4 ≤ num s 1) (hn2 : num s 1 ≤ 10004) (ht0 : 0 < t) (hm : num s 1 + 1 ≤ s.size) (hc4 : ¬ cap = 5) (hr : Hid (s.extract 5 (5 + (5 + num s 1 - 4 - 5)) = r)) :
    Calls Tryz.prog 23 #[.slice (some ⟨g, o, none⟩) s.size cap, .bool false] w fun e w' => e = .returned (.tuple #[.agg #[.int .u8 t, .string r], .int .i64 (5 + (num s 1 : Int) - 4), .int .i64 0]) ∧ Below w.heap.size w w' := by
  have hmf : ∀ (fn : Fn) (first cap : Array Value) (w : World), (Instr.makeFunc fn first cap).run Tryz.prog w = .ok (.func fn first cap) w := fun _ _ _ _ => rfl
  have hc0 : w.cell? ⟨g, o, none⟩ = some (.int .u8 t) := by have := hs.out.at 0 hx; rw [ht] at this; exact this
  have hg1 : g < w.heap.size + 1 := by omega
  have hg2 : g < w.heap.size + 1 + 1 := by omega
  have hz : ((t : Int) == 0) = false := by simp; omega
  go_enter_defers Tryz.func23, Tryz.ntmps23
  go_wp2_with fail
  refine (aheadB_ok _ _ _ 5 _ (by omega) (by omega) (by omega)).mono ?_; rintro e w' ⟨rfl, rfl⟩
  go_wp2_with (go_at_call 32; refine (numberB_at g o 1 _ _ s w hs.out (by omega) (by omega) _ (by intro i; exact threeB_cell w 0 { data := #[] } 0 0 0 g i hg)).mono ?_; rintro e w' ⟨rfl, k, rfl⟩)
  refine (aheadB_ok _ _ _ _ _ (by omega) (by omega) (by omega)).mono ?_; rintro e w' ⟨rfl, rfl⟩
  have hcv := convB g o 5 (5 + num s 1 - 4 - 5) (cap - 5) s w hs.out (by omega) ((threeB w t { data := #[] } (5 + (num s 1 : Int) - 4) 0).drewN k) (fun i => threeB_cell w _ _ _ 0 k g i hg)
  rw [hr.out] at hcv
  simp only [threeB] at hcv
  go_wp2
  go_region
  go_wp2
  refine leaves_cons (f := 30) (args := #[.pointer (some ⟨w.heap.size, 0, none⟩), .pointer (some ⟨w.heap.size + 1, 0, none⟩), .pointer (some ⟨w.heap.size + 1 + 1, 0, none⟩)]) (by simp) (by simp [go_sem]) ?_
  refine (catchB_idle w.heap.size _).mono ?_
  rintro e u' w'' ⟨rfl, rfl, rfl⟩
  simp [Leaves, settle, results, Tryz.results23, go_sem]
  exact below_drewN (threeB_below w t r (5 + (num s 1 : Int) - 4) 0) _

set_option maxHeartbeats 1000000 in
theorem firstB_just_bare (g o : Nat) (s : ByteArray) (w : World) (hs : Hid (Lies w g o s)) (hg : g < w.heap.size) (h : 4 ≤ s.size) (hm : num s 0 = 4) (hz4 : s.size = 4) :
    Calls Tryz.prog 23 #[.slice (some ⟨g, o, none⟩) s.size 4, .bool true] w fun e w' => e = .returned (.tuple #[.agg #[.int .u8 0, .string { data := #[] }], .int .i64 4, .int .i64 0]) ∧ Below w.heap.size w w' := by
  have hmf : ∀ (fn : Fn) (first cap : Array Value) (w : World), (Instr.makeFunc fn first cap).run Tryz.prog w = .ok (.func fn first cap) w := fun _ _ _ _ => rfl
  go_enter_defers Tryz.func23, Tryz.ntmps23
  go_wp2_with fail
  refine (aheadB_ok _ _ _ 4 _ (by omega) (by omega) (by omega)).mono ?_; rintro e w' ⟨rfl, rfl⟩
  go_wp2_with (go_at_call 32; refine (numberB_at g o 0 _ _ s w hs.out (by omega) (by omega) _ (by intro i; exact threeB_cell w 0 { data := #[] } 0 0 0 g i hg)).mono ?_; rintro e w' ⟨rfl, k, rfl⟩)
  refine (aheadB_ok _ _ _ _ _ (by omega) (by omega) (by omega)).mono ?_; rintro e w' ⟨rfl, rfl⟩
  have hcv := convB g o 0 0 0 s w hs.out (by omega) ((threeB w 0 { data := #[] } 4 0).drewN k) (fun i => threeB_cell w _ _ _ 0 k g i hg)
  rw [show s.extract 0 (0 + 0) = { data := #[] } from by apply bytes_ext; rw [extract_data]; simp, Nat.add_zero] at hcv
  simp only [threeB] at hcv
  go_wp2
  go_region
  go_wp2
  refine leaves_cons (f := 30) (args := #[.pointer (some ⟨w.heap.size, 0, none⟩), .pointer (some ⟨w.heap.size + 1, 0, none⟩), .pointer (some ⟨w.heap.size + 1 + 1, 0, none⟩)]) (by simp) (by simp [go_sem]) ?_
  refine (catchB_idle w.heap.size _).mono ?_
  rintro e u' w'' ⟨rfl, rfl, rfl⟩
  simp [Leaves, settle, results, Tryz.results23, go_sem]
  exact below_drewN (threeB_below w 0 { data := #[] } 4 0) _

set_option maxHeartbeats 1000000 in
theorem firstB_just (t g o : Nat) (s : ByteArray) (w : World) (hs : Hid (Lies w g o s)) (hg : g < w.heap.size) (h : 5 ≤ s.size) (hx : 0 < s.size) (ht : (s[0]'hx).toNat = t) (ht0 : 0 < t) (hm : num s 1 = 4) (hz4 : s.size = 5) :
    Calls Tryz.prog 23 #[.slice (some ⟨g, o, none⟩) s.size 5, .bool false] w fun e w' => e = .returned (.tuple #[.agg #[.int .u8 t, .string { data := #[] }], .int .i64 5, .int .i64 0]) ∧ Below w.heap.size w w' := by
  have hmf : ∀ (fn : Fn) (first cap : Array Value) (w : World), (Instr.makeFunc fn first cap).run Tryz.prog w = .ok (.func fn first cap) w := fun _ _ _ _ => rfl
  have hc0 : w.cell? ⟨g, o, none⟩ = some (.int .u8 t) := by have := hs.out.at 0 hx; rw [ht] at this; exact this
  have hg1 : g < w.heap.size + 1 := by omega
  have hg2 : g < w.heap.size + 1 + 1 := by omega
  have hz : ((t : Int) == 0) = false := by simp; omega
  go_enter_defers Tryz.func23, Tryz.ntmps23
  go_wp2_with fail
  refine (aheadB_ok _ _ _ 5 _ (by omega) (by omega) (by omega)).mono ?_; rintro e w' ⟨rfl, rfl⟩
  go_wp2_with (go_at_call 32; refine (numberB_at g o 1 _ _ s w hs.out (by omega) (by omega) _ (by intro i; exact threeB_cell w 0 { data := #[] } 0 0 0 g i hg)).mono ?_; rintro e w' ⟨rfl, k, rfl⟩)
  refine (aheadB_ok _ _ _ _ _ (by omega) (by omega) (by omega)).mono ?_; rintro e w' ⟨rfl, rfl⟩
  have hcv := convB g o 0 0 0 s w hs.out (by omega) ((threeB w t { data := #[] } 5 0).drewN k) (fun i => threeB_cell w _ _ _ 0 k g i hg)
  rw [show s.extract 0 (0 + 0) = { data := #[] } from by apply bytes_ext; rw [extract_data]; simp, Nat.add_zero] at hcv
  simp only [threeB] at hcv
  go_wp2
  go_region
  go_wp2
  refine leaves_cons (f := 30) (args := #[.pointer (some ⟨w.heap.size, 0, none⟩), .pointer (some ⟨w.heap.size + 1, 0, none⟩), .pointer (some ⟨w.heap.size + 1 + 1, 0, none⟩)]) (by simp) (by simp [go_sem]) ?_
  refine (catchB_idle w.heap.size _).mono ?_
  rintro e u' w'' ⟨rfl, rfl, rfl⟩
  simp [Leaves, settle, results, Tryz.results23, go_sem]
  exact below_drewN (threeB_below w t { data := #[] } 5 0) _

end Go.Proofs.YtmofnkinclckoaaGreatDoor
