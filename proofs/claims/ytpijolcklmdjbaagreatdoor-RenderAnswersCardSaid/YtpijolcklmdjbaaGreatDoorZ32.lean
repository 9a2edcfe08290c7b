/- Contracts and mathematics: First, Take. -/
import Derived.Test.YtpijolcklmdjbaaGreatDoorRows
import Derived.Test.YtpijolcklmdjbaaGreatDoorZ7
import Derived.BigQuiet
import Derived.Deep.QuietTactic
import Derived.RegionTactic
import Derived.Defers
import Derived.Recover
import Derived.WalkLawsBesides
import Derived.WalkSpells
namespace Go.Proofs.YtpijolcklmdjbaaGreatDoor
open Go.RowKit Go.Lib

theorem ahead_ok (s : ByteArray) (n : Int) (w : World) (h0 : 0 ≤ n) (h : n ≤ s.size) :
    Calls Tryz.prog 41 #[.string s, .int .i64 n] w fun e w' => e = .returned (.string (s.extract 0 n.toNat)) ∧ w = w' := by
  obtain ⟨m, rfl⟩ := Int.eq_ofNat_of_zero_le h0
  have h1 : ¬ (s.size : Int) < m := by omega
  go_enter Tryz.func41, Tryz.ntmps41
  go_wp2
  go_ret
  exact ⟨rfl, rfl⟩

theorem big_any (s : ByteArray) (w : World) (h : 4 ≤ s.size) :
    Calls Tryz.prog 42 #[.string s] w fun e w' => e = .returned (.int .u32 (big4 s.data.toList : Nat)) ∧ ∃ k, w' = w.drewN k := by
  have a0 : 0 < s.size := by omega
  have a1 : (1 : Int) < s.size := by omega
  have a2 : (2 : Int) < s.size := by omega
  have a3 : (3 : Int) < s.size := by omega
  have hv := four_or s[0] s[1] s[2] s[3]
  have hb : big4 s.data.toList = s[0].toNat * 16777216 + s[1].toNat * 65536 + s[2].toNat * 256 + s[3].toNat := by rw [bytes_four s h]; rfl
  rw [← hb] at hv
  have HV := Lib.hid hv
  clear hv hb
  go_enter Tryz.func42, Tryz.ntmps42
  go_wp2
  go_quiet (fail)
  go_wp2
  go_ret
  exact ⟨congrArg (fun n => Ending.returned (.int .u32 n)) HV.out, _, rfl⟩

theorem number_at (s : ByteArray) (i j : Nat) (w : World) (h : j ≤ s.size) (hi : i + 4 = j) :
    Calls Tryz.prog 42 #[.string ((s.extract 0 j).extract i j)] w fun e w' => e = .returned (.int .u32 (num s i : Nat)) ∧ ∃ k, w' = w.drewN k := by
  have := big_any ((s.extract 0 j).extract i j) w (by rw [size_cut s i j h hi]; omega)
  rw [num_cut s i j hi] at this
  exact this

theorem catch_idle1 (b : Nat) (w : World) :
    CallsD Tryz.prog 40 #[.pointer (some ⟨b, 0, none⟩), .pointer (some ⟨b + 1, 0, none⟩), .pointer (some ⟨b + 1 + 1, 0, none⟩)] .returning w fun e u' w' => e = .returned (.tuple #[]) ∧ u' = .returning ∧ w' = w := by
  refine callsD_of_wpS Tryz.func40 rfl fun c₀ cs hu => ?_
  apply wpS_seq
  apply wpS_region
  simp [wpOpsS, go_sem, recoverD, hu, Tryz.ntmps40, Exit.thenS]
  refine wpS_cond (t := false) (by simp [Act.eval, Array.replicate]) ?_
  simp only [Bool.false_eq_true, if_false]
  refine wpS_of_wp (wp_skip ?_)
  cases c₀
  simp_all [bodyPostS, results, Tryz.results40]

@[go_sem, simp] theorem setCell_drewNM (w : World) (k : Nat) (a : Addr) (v : Value) : (w.drewN k).setCell a v = (w.setCell a v).drewN k := rfl

/-- The three blocks that the results lie in. -/
def three (w : World) (t : Int) (s : ByteArray) (n e : Int) : World :=
  ((w.alloc (.cells #[.int .u8 t, .string s] 33)).alloc (.cells #[.int .i64 n] 3)).alloc (.cells #[.int .i64 e] 26)

theorem three_below (w : World) (t : Int) (s : ByteArray) (n e : Int) : Below w.heap.size w (three w t s n e) :=
  (((Below.refl _ _).alloc (Nat.le_refl _) _).alloc (by simp) _).alloc (by simp; omega) _

set_option maxRecDepth 100000 in
set_option maxHeartbeats 1000000 in
theorem first_ok_bare (s : ByteArray) (w : World) (h : 4 ≤ s.size) (hn : 4 ≤ num s 0) (hn2 : num s 0 ≤ 10004) (hm : num s 0 ≤ s.size) :
    Calls Tryz.prog 22 #[.string s, .bool true] w fun e w' => e = .returned (.tuple #[.agg #[.int .u8 0, .string ((s.extract 0 (num s 0)).extract 4 (num s 0))], .int .i64 (4 + (num s 0 : Int) - 4), .int .i64 0]) ∧ Below w.heap.size w w' := by
  have hmf : ∀ (fn : Fn) (first cap : Array Value) (w : World), (Instr.makeFunc fn first cap).run Tryz.prog w = .ok (.func fn first cap) w := fun _ _ _ _ => rfl
  go_enter_defers Tryz.func22, Tryz.ntmps22
  go_wp2_with fail
  refine (ahead_ok s 4 _ (by omega) (by omega)).mono ?_; rintro e w' ⟨rfl, rfl⟩
  go_wp2_with (go_at_call 42; refine (number_at s 0 4 _ (by omega) rfl).mono ?_; rintro e w' ⟨rfl, k, rfl⟩)
  refine (ahead_ok s _ _ (by omega) (by omega)).mono ?_; rintro e w' ⟨rfl, rfl⟩
  go_wp2
  go_region
  go_wp2
  refine leaves_cons (f := 40) (args := #[.pointer (some ⟨w.heap.size, 0, none⟩), .pointer (some ⟨w.heap.size + 1, 0, none⟩), .pointer (some ⟨w.heap.size + 1 + 1, 0, none⟩)]) (by simp) (by simp [go_sem]) ?_
  refine (catch_idle1 w.heap.size _).mono ?_
  rintro e u' w'' ⟨rfl, rfl, rfl⟩
  simp [Leaves, settle, results, Tryz.results22, go_sem]
  exact below_drewN (three_below w 0 ((s.extract 0 (num s 0)).extract 4 (num s 0)) (4 + (num s 0 : Int) - 4) 0) _

set_option maxRecDepth 100000 in
set_option maxHeartbeats 1000000 in
theorem first_ok (t : Nat) (s : ByteArray) (w : World) (h : 5 ≤ s.size) (hx : 0 < (s.extract 0 5).size) (ht : ((s.extract 0 5)[0]'hx).toNat = t) (hn : 4 ≤ num s 1) (hn2 : num s 1 ≤ 10004) (ht0 : 0 < t) (hm : num s 1 + 1 ≤ s.size) :
    Calls Tryz.prog 22 #[.string s, .bool false] w fun e w' => e = .returned (.tuple #[.agg #[.int .u8 (t : Nat), .string ((s.extract 0 (5 + num s 1 - 4)).extract 5 (min (5 + num s 1 - 4) s.size))], .int .i64 (5 + (num s 1 : Int) - 4), .int .i64 0]) ∧ Below w.heap.size w w' := by
  have hmf : ∀ (fn : Fn) (first cap : Array Value) (w : World), (Instr.makeFunc fn first cap).run Tryz.prog w = .ok (.func fn first cap) w := fun _ _ _ _ => rfl
  have hz : ((t : Int) == 0) = false := by simp; omega
  go_enter_defers Tryz.func22, Tryz.ntmps22
  go_wp2_with fail
  refine (ahead_ok s 5 _ (by omega) (by omega)).mono ?_; rintro e w' ⟨rfl, rfl⟩
  go_wp2_with (go_at_call 42; refine (number_at s 1 5 _ (by omega) rfl).mono ?_; rintro e w' ⟨rfl, k, rfl⟩)
  refine (ahead_ok s _ _ (by omega) (by omega)).mono ?_; rintro e w' ⟨rfl, rfl⟩
  go_wp2
  go_region
  go_wp2
  refine leaves_cons (f := 40) (args := #[.pointer (some ⟨w.heap.size, 0, none⟩), .pointer (some ⟨w.heap.size + 1, 0, none⟩), .pointer (some ⟨w.heap.size + 1 + 1, 0, none⟩)]) (by simp) (by simp [go_sem]) ?_
  refine (catch_idle1 w.heap.size _).mono ?_
  rintro e u' w'' ⟨rfl, rfl, rfl⟩
  simp [Leaves, settle, results, Tryz.results22, go_sem]
  exact below_drewN (three_below w (t : Nat) ((s.extract 0 (5 + num s 1 - 4)).extract 5 (min (5 + num s 1 - 4) s.size)) (5 + (num s 1 : Int) - 4) 0) _

end Go.Proofs.YtpijolcklmdjbaaGreatDoor

namespace Go.Proofs.YtpijolcklmdjbaaGreatDoor
open Go.RowKit Go.Lib

theorem frame_good {s : ByteArray} {bare : Bool} (h : frameE s bare = 0) : headN bare ≤ s.size ∧ 4 ≤ num s (headN bare - 4) ∧ num s (headN bare - 4) ≤ 10004 ∧ frameN s bare ≤ s.size ∧ (bare = false → 0 < headT s bare) := by
  unfold frameE at h
  repeat' split at h
  all_goals first | (exfalso; omega) | skip
  rename_i h1 h2 h3 h4
  refine ⟨by omega, by omega, by omega, by omega, fun hb => ?_⟩
  have : ¬ headT s bare = 0 := fun e => h2 (Or.inr ⟨hb, e⟩)
  omega

theorem first_good (s : ByteArray) (bare : Bool) (w : World) (hE : frameE s bare = 0) :
    Calls Tryz.prog 22 #[.string s, .bool bare] w fun e w' => e = .returned (.tuple #[.agg #[.int .u8 (headT s bare : Nat), .string (frameB s bare)], .int .i64 (frameN s bare : Nat), .int .i64 0]) ∧ Below w.heap.size w w' := by
  obtain ⟨h1, h2, h3, h4, h5⟩ := frame_good hE
  cases bare with
  | true =>
    simp only [headN, if_true, frameN, Nat.sub_self, Nat.zero_add] at h1 h2 h3 h4
    have e1 : frameB s true = (s.extract 0 (num s 0)).extract 4 (num s 0) := by simp only [frameB, headN, if_true, frameN, Nat.sub_self, Nat.zero_add]; exact (cut_cut s 4 _).symm
    have e2 : ((frameN s true : Nat) : Int) = 4 + (num s 0 : Int) - 4 := by simp only [headN, if_true, frameN, Nat.sub_self, Nat.zero_add]; omega
    rw [e1, e2]
    exact first_ok_bare s w h1 h2 h3 h4
  | false =>
    simp only [headN, Bool.false_eq_true, if_false, frameN, show 5 - 4 = 1 from rfl] at h1 h2 h3 h4
    have hx : 0 < (s.extract 0 5).size := by simp; omega
    have ht := first_byte s (by omega) hx
    have e0 : min (5 + num s 1 - 4) s.size = 5 + num s 1 - 4 := by omega
    have e1 : frameB s false = (s.extract 0 (5 + num s 1 - 4)).extract 5 (min (5 + num s 1 - 4) s.size) := by
      rw [e0, cut_cut s 5 _]
      simp only [frameB, headN, Bool.false_eq_true, if_false, frameN, show 5 - 4 = 1 from rfl]
      rw [show 1 + num s 1 = 5 + num s 1 - 4 by omega]
    have e2 : ((frameN s false : Nat) : Int) = 5 + (num s 1 : Int) - 4 := by simp only [headN, Bool.false_eq_true, if_false, frameN, show 5 - 4 = 1 from rfl]; omega
    rw [e1, e2]
    exact first_ok _ s w h1 hx ht h2 h3 (h5 rfl) (by omega)

set_option maxRecDepth 100000 in
set_option maxHeartbeats 800000 in
theorem take_good (s : ByteArray) (bare : Bool) (w : World) (hE : frameE s bare = 0) :
    Calls Tryz.prog 11 #[.string s, .bool bare] w fun e w' => e = .returned (.tuple #[.agg #[.int .u8 (headT s bare : Nat), .string (frameB s bare)], .string (s.extract (frameN s bare) s.size), .int .i64 0]) ∧ Below w.heap.size w w' := by
  have hN := (frame_good hE).2.2.2.1
  go_enter Tryz.func11, Tryz.ntmps11
  go_wp2_with fail
  refine (first_good s bare _ hE).mono ?_; rintro e w1 ⟨rfl, hb⟩
  obtain ⟨hc, hf, hz⟩ := one_box hb
  go_wp2_with fail
  go_region
  go_wp2
  refine bodyPost_ret (v := .tuple #[.agg #[.int .u8 (headT s bare : Nat), .string (frameB s bare)], .string (s.extract (frameN s bare) s.size), .int .i64 0]) (by simp [results, Tryz.results11, go_sem, hc, hz]) rfl ⟨rfl, ?_⟩
  exact ((((((Below.refl _ _).alloc (Nat.le_refl _) _).step hb (by simp)).setCell (Nat.le_refl _) _).setCell (Nat.le_refl _) _).alloc (by simp; omega) _).drew
end Go.Proofs.YtpijolcklmdjbaaGreatDoor
