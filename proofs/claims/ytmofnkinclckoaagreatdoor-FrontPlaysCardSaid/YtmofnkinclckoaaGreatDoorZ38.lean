/- Contracts and mathematics: RefTake, RefBoth, YRow. -/
import Derived.Test.YtmofnkinclckoaaGreatDoorRows
import Derived.Test.YtmofnkinclckoaaGreatDoorZ7
import Derived.LoopTactic
import Derived.RegionTactic
import Derived.Test.YtmofnkinclckoaaGreatDoorZ37
import Derived.Test.YtmofnkinclckoaaGreatDoorZ23
namespace Go.Proofs.YtmofnkinclckoaaGreatDoor
open Go.RowKit Go.Lib

theorem rtake_few_bare (s : ByteArray) (w : World) (h : s.size < 4) :
    Calls Tryz.prog 18 #[.string s, .bool true] w fun e w' => e = .returned (.tuple #[.agg #[.int .u8 0, .string { data := #[] }], .string { data := #[] }, .int .i64 4]) ∧ Below w.heap.size w w' := by
  go_enter Tryz.func18, Tryz.ntmps18
  go_wp2
  refine bodyPost_ret (v := .tuple #[.agg #[.int .u8 0, .string { data := #[] }], .string { data := #[] }, .int .i64 4]) (by simp [results, Tryz.results18, go_sem]) rfl ⟨rfl, ?_⟩
  exact (Below.refl _ _).alloc (Nat.le_refl _) _

theorem rtake_few (s : ByteArray) (w : World) (h : s.size < 5) :
    Calls Tryz.prog 18 #[.string s, .bool false] w fun e w' => e = .returned (.tuple #[.agg #[.int .u8 0, .string { data := #[] }], .string { data := #[] }, .int .i64 4]) ∧ Below w.heap.size w w' := by
  go_enter Tryz.func18, Tryz.ntmps18
  go_wp2
  refine bodyPost_ret (v := .tuple #[.agg #[.int .u8 0, .string { data := #[] }], .string { data := #[] }, .int .i64 4]) (by simp [results, Tryz.results18, go_sem]) rfl ⟨rfl, ?_⟩
  exact (Below.refl _ _).alloc (Nat.le_refl _) _

set_option maxHeartbeats 1000000 in
theorem rtake_form_bare (m : Nat) (s : ByteArray) (w : World) (hM : Hid (num s 0 = m)) (h : 4 ≤ s.size) (hn : m < 4) :
    Calls Tryz.prog 18 #[.string s, .bool true] w fun e w' => e = .returned (.tuple #[.agg #[.int .u8 0, .string { data := #[] }], .string { data := #[] }, .int .i64 2]) ∧ Below w.heap.size w w' := by
  have hnum := Lib.hid ((horner_four s 0 (by omega)).trans hM.out)
  go_enter Tryz.func18, Tryz.ntmps18
  go_wp2
  go_loop [8, 9] (fun n i => ∃ k : Nat, k ≤ 4 ∧ i = .int .i64 k ∧ n = .int .i64 (horner s 0 k)) (fun _ i => 4 - (RowKit.intOf i).toNat)
  case atStart => exact ⟨0, by omega, rfl, rfl⟩
  case round =>
    obtain ⟨k, hk, rfl, rfl⟩ := hrel
    have hl := horner_le s 0 k hk (by omega)
    by_cases hlt : k < 4
    · have hL : k < s.size := by omega
      have HS := Lib.hid (show horner s 0 (k + 1) = 256 * horner s 0 k + s[k].toNat by have := horner_succ s 0 k (by omega); simpa using this)
      have hc : s[k].toNat ≤ 255 := by have := s[k].toNat_lt; omega
      go_wp2
      go_round
      case rel => exact ⟨k + 1, by omega, by go_num, by rw [HS.out]; go_num⟩
      case measure => simp [RowKit.intOf]; omega
    · obtain rfl : k = 4 := by omega
      rw [hnum.out]
      clear hnum hl hlt hk hM
      go_wp2
      refine bodyPost_ret (v := .tuple #[.agg #[.int .u8 0, .string { data := #[] }], .string { data := #[] }, .int .i64 2]) (by simp [results, Tryz.results18, go_sem]) rfl ⟨rfl, ?_⟩
      exact ((Below.refl _ _).alloc (Nat.le_refl _) _).alloc (by simp) _

set_option maxHeartbeats 1000000 in
theorem rtake_long_bare (m : Nat) (s : ByteArray) (w : World) (hM : Hid (num s 0 = m)) (h : 4 ≤ s.size) (hn : 10004 < m) (hm2 : m < 4294967296) :
    Calls Tryz.prog 18 #[.string s, .bool true] w fun e w' => e = .returned (.tuple #[.agg #[.int .u8 0, .string { data := #[] }], .string { data := #[] }, .int .i64 3]) ∧ Below w.heap.size w w' := by
  have hnum := Lib.hid ((horner_four s 0 (by omega)).trans hM.out)
  go_enter Tryz.func18, Tryz.ntmps18
  go_wp2
  go_loop [8, 9] (fun n i => ∃ k : Nat, k ≤ 4 ∧ i = .int .i64 k ∧ n = .int .i64 (horner s 0 k)) (fun _ i => 4 - (RowKit.intOf i).toNat)
  case atStart => exact ⟨0, by omega, rfl, rfl⟩
  case round =>
    obtain ⟨k, hk, rfl, rfl⟩ := hrel
    have hl := horner_le s 0 k hk (by omega)
    by_cases hlt : k < 4
    · have hL : k < s.size := by omega
      have HS := Lib.hid (show horner s 0 (k + 1) = 256 * horner s 0 k + s[k].toNat by have := horner_succ s 0 k (by omega); simpa using this)
      have hc : s[k].toNat ≤ 255 := by have := s[k].toNat_lt; omega
      go_wp2
      go_round
      case rel => exact ⟨k + 1, by omega, by go_num, by rw [HS.out]; go_num⟩
      case measure => simp [RowKit.intOf]; omega
    · obtain rfl : k = 4 := by omega
      rw [hnum.out]
      clear hnum hl hlt hk hM
      go_wp2
      refine bodyPost_ret (v := .tuple #[.agg #[.int .u8 0, .string { data := #[] }], .string { data := #[] }, .int .i64 3]) (by simp [results, Tryz.results18, go_sem]) rfl ⟨rfl, ?_⟩
      exact ((Below.refl _ _).alloc (Nat.le_refl _) _).alloc (by simp) _

set_option maxHeartbeats 1000000 in
theorem rtake_more_bare (m : Nat) (s : ByteArray) (w : World) (hM : Hid (num s 0 = m)) (h : 4 ≤ s.size) (hn : 4 ≤ m) (hn2 : m ≤ 10004) (hm : s.size < m) :
    Calls Tryz.prog 18 #[.string s, .bool true] w fun e w' => e = .returned (.tuple #[.agg #[.int .u8 0, .string { data := #[] }], .string { data := #[] }, .int .i64 4]) ∧ Below w.heap.size w w' := by
  have hnum := Lib.hid ((horner_four s 0 (by omega)).trans hM.out)
  go_enter Tryz.func18, Tryz.ntmps18
  go_wp2
  go_loop [8, 9] (fun n i => ∃ k : Nat, k ≤ 4 ∧ i = .int .i64 k ∧ n = .int .i64 (horner s 0 k)) (fun _ i => 4 - (RowKit.intOf i).toNat)
  case atStart => exact ⟨0, by omega, rfl, rfl⟩
  case round =>
    obtain ⟨k, hk, rfl, rfl⟩ := hrel
    have hl := horner_le s 0 k hk (by omega)
    by_cases hlt : k < 4
    · have hL : k < s.size := by omega
      have HS := Lib.hid (show horner s 0 (k + 1) = 256 * horner s 0 k + s[k].toNat by have := horner_succ s 0 k (by omega); simpa using this)
      have hc : s[k].toNat ≤ 255 := by have := s[k].toNat_lt; omega
      go_wp2
      go_round
      case rel => exact ⟨k + 1, by omega, by go_num, by rw [HS.out]; go_num⟩
      case measure => simp [RowKit.intOf]; omega
    · obtain rfl : k = 4 := by omega
      rw [hnum.out]
      clear hnum hl hlt hk hM
      go_wp2
      refine bodyPost_ret (v := .tuple #[.agg #[.int .u8 0, .string { data := #[] }], .string { data := #[] }, .int .i64 4]) (by simp [results, Tryz.results18, go_sem]) rfl ⟨rfl, ?_⟩
      exact ((Below.refl _ _).alloc (Nat.le_refl _) _).alloc (by simp) _

set_option maxHeartbeats 1000000 in
theorem rtake_good_bare (m : Nat) (s : ByteArray) (w : World) (hM : Hid (num s 0 = m)) (h : 4 ≤ s.size) (hn : 4 ≤ m) (hn2 : m ≤ 10004) (hm : m ≤ s.size) :
    Calls Tryz.prog 18 #[.string s, .bool true] w fun e w' => e = .returned (.tuple #[.agg #[.int .u8 0, .string (s.extract 4 m)], .string (s.extract m s.size), .int .i64 0]) ∧ Below w.heap.size w w' := by
  have hnum := Lib.hid ((horner_four s 0 (by omega)).trans hM.out)
  go_enter Tryz.func18, Tryz.ntmps18
  go_wp2
  go_loop [8, 9] (fun n i => ∃ k : Nat, k ≤ 4 ∧ i = .int .i64 k ∧ n = .int .i64 (horner s 0 k)) (fun _ i => 4 - (RowKit.intOf i).toNat)
  case atStart => exact ⟨0, by omega, rfl, rfl⟩
  case round =>
    obtain ⟨k, hk, rfl, rfl⟩ := hrel
    have hl := horner_le s 0 k hk (by omega)
    by_cases hlt : k < 4
    · have hL : k < s.size := by omega
      have HS := Lib.hid (show horner s 0 (k + 1) = 256 * horner s 0 k + s[k].toNat by have := horner_succ s 0 k (by omega); simpa using this)
      have hc : s[k].toNat ≤ 255 := by have := s[k].toNat_lt; omega
      go_wp2
      go_round
      case rel => exact ⟨k + 1, by omega, by go_num, by rw [HS.out]; go_num⟩
      case measure => simp [RowKit.intOf]; omega
    · obtain rfl : k = 4 := by omega
      rw [hnum.out]
      clear hnum hl hlt hk hM
      go_wp2
      go_region
      go_wp2
      refine bodyPost_ret (v := .tuple #[.agg #[.int .u8 0, .string (s.extract 4 m)], .string (s.extract m s.size), .int .i64 0]) (by simp [results, Tryz.results18, go_sem]) rfl ⟨rfl, ?_⟩
      exact (((Below.refl _ _).alloc (Nat.le_refl _) _).alloc (by simp) _).drew

set_option maxHeartbeats 1000000 in
theorem rtake_formN (t : Nat) (m : Nat) (s : ByteArray) (w : World) (hM : Hid (num s 1 = m)) (h : 5 ≤ s.size) (hx : 0 < s.size) (ht : (s[0]'hx).toNat = t) (hn : m < 4) :
    Calls Tryz.prog 18 #[.string s, .bool false] w fun e w' => e = .returned (.tuple #[.agg #[.int .u8 0, .string { data := #[] }], .string { data := #[] }, .int .i64 2]) ∧ Below w.heap.size w w' := by
  have hnum := Lib.hid ((horner_four s 1 (by omega)).trans hM.out)
  go_enter Tryz.func18, Tryz.ntmps18
  go_wp2
  go_loop [8, 9] (fun n i => ∃ k : Nat, k ≤ 4 ∧ i = .int .i64 k ∧ n = .int .i64 (horner s 1 k)) (fun _ i => 4 - (RowKit.intOf i).toNat)
  case atStart => exact ⟨0, by omega, rfl, rfl⟩
  case round =>
    obtain ⟨k, hk, rfl, rfl⟩ := hrel
    have hl := horner_le s 1 k hk (by omega)
    by_cases hlt : k < 4
    · have hL : 1 + k < s.size := by omega
      have HS := Lib.hid (show horner s 1 (k + 1) = 256 * horner s 1 k + s[1 + k].toNat by have := horner_succ s 1 k (by omega); simpa using this)
      have hc : s[1 + k].toNat ≤ 255 := by have := s[1 + k].toNat_lt; omega
      go_wp2
      go_round
      case rel => exact ⟨k + 1, by omega, by go_num, by rw [HS.out]; go_num⟩
      case measure => simp [RowKit.intOf]; omega
    · obtain rfl : k = 4 := by omega
      rw [hnum.out]
      clear hnum hl hlt hk hM
      go_wp2
      refine bodyPost_ret (v := .tuple #[.agg #[.int .u8 0, .string { data := #[] }], .string { data := #[] }, .int .i64 2]) (by simp [results, Tryz.results18, go_sem]) rfl ⟨rfl, ?_⟩
      exact ((Below.refl _ _).alloc (Nat.le_refl _) _).alloc (by simp) _

set_option maxHeartbeats 1000000 in
theorem rtake_formT (m : Nat) (s : ByteArray) (w : World) (hM : Hid (num s 1 = m)) (h : 5 ≤ s.size) (hx : 0 < s.size) (ht : (s[0]'hx).toNat = 0) (hn : 4 ≤ m) (hm2 : m < 4294967296) :
    Calls Tryz.prog 18 #[.string s, .bool false] w fun e w' => e = .returned (.tuple #[.agg #[.int .u8 0, .string { data := #[] }], .string { data := #[] }, .int .i64 2]) ∧ Below w.heap.size w w' := by
  have hnum := Lib.hid ((horner_four s 1 (by omega)).trans hM.out)
  go_enter Tryz.func18, Tryz.ntmps18
  go_wp2
  go_loop [8, 9] (fun n i => ∃ k : Nat, k ≤ 4 ∧ i = .int .i64 k ∧ n = .int .i64 (horner s 1 k)) (fun _ i => 4 - (RowKit.intOf i).toNat)
  case atStart => exact ⟨0, by omega, rfl, rfl⟩
  case round =>
    obtain ⟨k, hk, rfl, rfl⟩ := hrel
    have hl := horner_le s 1 k hk (by omega)
    by_cases hlt : k < 4
    · have hL : 1 + k < s.size := by omega
      have HS := Lib.hid (show horner s 1 (k + 1) = 256 * horner s 1 k + s[1 + k].toNat by have := horner_succ s 1 k (by omega); simpa using this)
      have hc : s[1 + k].toNat ≤ 255 := by have := s[1 + k].toNat_lt; omega
      go_wp2
      go_round
      case rel => exact ⟨k + 1, by omega, by go_num, by rw [HS.out]; go_num⟩
      case measure => simp [RowKit.intOf]; omega
    · obtain rfl : k = 4 := by omega
      rw [hnum.out]
      clear hnum hl hlt hk hM
      go_wp2
      refine bodyPost_ret (v := .tuple #[.agg #[.int .u8 0, .string { data := #[] }], .string { data := #[] }, .int .i64 2]) (by simp [results, Tryz.results18, go_sem]) rfl ⟨rfl, ?_⟩
      exact ((Below.refl _ _).alloc (Nat.le_refl _) _).alloc (by simp) _

set_option maxHeartbeats 1000000 in
theorem rtake_long (t : Nat) (m : Nat) (s : ByteArray) (w : World) (hM : Hid (num s 1 = m)) (h : 5 ≤ s.size) (hx : 0 < s.size) (ht : (s[0]'hx).toNat = t) (hn : 10004 < m) (hm2 : m < 4294967296) (ht0 : 0 < t) :
    Calls Tryz.prog 18 #[.string s, .bool false] w fun e w' => e = .returned (.tuple #[.agg #[.int .u8 0, .string { data := #[] }], .string { data := #[] }, .int .i64 3]) ∧ Below w.heap.size w w' := by
  have hnum := Lib.hid ((horner_four s 1 (by omega)).trans hM.out)
  have hz : ((t : Int) == 0) = false := by simp; omega
  go_enter Tryz.func18, Tryz.ntmps18
  go_wp2
  go_loop [8, 9] (fun n i => ∃ k : Nat, k ≤ 4 ∧ i = .int .i64 k ∧ n = .int .i64 (horner s 1 k)) (fun _ i => 4 - (RowKit.intOf i).toNat)
  case atStart => exact ⟨0, by omega, rfl, rfl⟩
  case round =>
    obtain ⟨k, hk, rfl, rfl⟩ := hrel
    have hl := horner_le s 1 k hk (by omega)
    by_cases hlt : k < 4
    · have hL : 1 + k < s.size := by omega
      have HS := Lib.hid (show horner s 1 (k + 1) = 256 * horner s 1 k + s[1 + k].toNat by have := horner_succ s 1 k (by omega); simpa using this)
      have hc : s[1 + k].toNat ≤ 255 := by have := s[1 + k].toNat_lt; omega
      go_wp2
      go_round
      case rel => exact ⟨k + 1, by omega, by go_num, by rw [HS.out]; go_num⟩
      case measure => simp [RowKit.intOf]; omega
    · obtain rfl : k = 4 := by omega
      rw [hnum.out]
      clear hnum hl hlt hk hM
      go_wp2
      refine bodyPost_ret (v := .tuple #[.agg #[.int .u8 0, .string { data := #[] }], .string { data := #[] }, .int .i64 3]) (by simp [results, Tryz.results18, go_sem]) rfl ⟨rfl, ?_⟩
      exact ((Below.refl _ _).alloc (Nat.le_refl _) _).alloc (by simp) _

set_option maxHeartbeats 1000000 in
theorem rtake_more (t : Nat) (m : Nat) (s : ByteArray) (w : World) (hM : Hid (num s 1 = m)) (h : 5 ≤ s.size) (hx : 0 < s.size) (ht : (s[0]'hx).toNat = t) (hn : 4 ≤ m) (hn2 : m ≤ 10004) (ht0 : 0 < t) (hm : s.size < 1 + m) :
    Calls Tryz.prog 18 #[.string s, .bool false] w fun e w' => e = .returned (.tuple #[.agg #[.int .u8 0, .string { data := #[] }], .string { data := #[] }, .int .i64 4]) ∧ Below w.heap.size w w' := by
  have hnum := Lib.hid ((horner_four s 1 (by omega)).trans hM.out)
  have hz : ((t : Int) == 0) = false := by simp; omega
  go_enter Tryz.func18, Tryz.ntmps18
  go_wp2
  go_loop [8, 9] (fun n i => ∃ k : Nat, k ≤ 4 ∧ i = .int .i64 k ∧ n = .int .i64 (horner s 1 k)) (fun _ i => 4 - (RowKit.intOf i).toNat)
  case atStart => exact ⟨0, by omega, rfl, rfl⟩
  case round =>
    obtain ⟨k, hk, rfl, rfl⟩ := hrel
    have hl := horner_le s 1 k hk (by omega)
    by_cases hlt : k < 4
    · have hL : 1 + k < s.size := by omega
      have HS := Lib.hid (show horner s 1 (k + 1) = 256 * horner s 1 k + s[1 + k].toNat by have := horner_succ s 1 k (by omega); simpa using this)
      have hc : s[1 + k].toNat ≤ 255 := by have := s[1 + k].toNat_lt; omega
      go_wp2
      go_round
      case rel => exact ⟨k + 1, by omega, by go_num, by rw [HS.out]; go_num⟩
      case measure => simp [RowKit.intOf]; omega
    · obtain rfl : k = 4 := by omega
      rw [hnum.out]
      clear hnum hl hlt hk hM
      go_wp2
      refine bodyPost_ret (v := .tuple #[.agg #[.int .u8 0, .string { data := #[] }], .string { data := #[] }, .int .i64 4]) (by simp [results, Tryz.results18, go_sem]) rfl ⟨rfl, ?_⟩
      exact ((Below.refl _ _).alloc (Nat.le_refl _) _).alloc (by simp) _

set_option maxHeartbeats 1000000 in
theorem rtake_good (t : Nat) (m : Nat) (s : ByteArray) (w : World) (hM : Hid (num s 1 = m)) (h : 5 ≤ s.size) (hx : 0 < s.size) (ht : (s[0]'hx).toNat = t) (hn : 4 ≤ m) (hn2 : m ≤ 10004) (ht0 : 0 < t) (hm : 1 + m ≤ s.size) :
    Calls Tryz.prog 18 #[.string s, .bool false] w fun e w' => e = .returned (.tuple #[.agg #[.int .u8 t, .string (s.extract 5 (1 + m))], .string (s.extract (1 + m) s.size), .int .i64 0]) ∧ Below w.heap.size w w' := by
  have hnum := Lib.hid ((horner_four s 1 (by omega)).trans hM.out)
  have hz : ((t : Int) == 0) = false := by simp; omega
  have hsl := fun W => run_slice_string (P := Tryz.prog) (w := W) 9 s .i64 .i64 5 (1 + (m : Int)) Tryz.underlying9 (by omega) (by omega) (by omega)
  go_enter Tryz.func18, Tryz.ntmps18
  go_wp2
  go_loop [8, 9] (fun n i => ∃ k : Nat, k ≤ 4 ∧ i = .int .i64 k ∧ n = .int .i64 (horner s 1 k)) (fun _ i => 4 - (RowKit.intOf i).toNat)
  case atStart => exact ⟨0, by omega, rfl, rfl⟩
  case round =>
    obtain ⟨k, hk, rfl, rfl⟩ := hrel
    have hl := horner_le s 1 k hk (by omega)
    by_cases hlt : k < 4
    · have hL : 1 + k < s.size := by omega
      have HS := Lib.hid (show horner s 1 (k + 1) = 256 * horner s 1 k + s[1 + k].toNat by have := horner_succ s 1 k (by omega); simpa using this)
      have hc : s[1 + k].toNat ≤ 255 := by have := s[1 + k].toNat_lt; omega
      go_wp2
      go_round
      case rel => exact ⟨k + 1, by omega, by go_num, by rw [HS.out]; go_num⟩
      case measure => simp [RowKit.intOf]; omega
    · obtain rfl : k = 4 := by omega
      rw [hnum.out]
      clear hnum hl hlt hk hM
      go_wp2
      go_region
      go_wp2
      refine bodyPost_ret (v := .tuple #[.agg #[.int .u8 t, .string (s.extract 5 (1 + m))], .string (s.extract (1 + m) s.size), .int .i64 0]) (by simp [results, Tryz.results18, go_sem]) rfl ⟨rfl, ?_⟩
      exact (((Below.refl _ _).alloc (Nat.le_refl _) _).alloc (by simp) _).drew

end Go.Proofs.YtmofnkinclckoaaGreatDoor

namespace Go.Proofs.YtmofnkinclckoaaGreatDoor
open Go.RowKit Go.Lib

theorem head_byte (s : ByteArray) (h : 4 ≤ s.size) (hx : 0 < s.size) : (s[0]'hx).toNat = headT s false := by
  rw [headT, bytes_four s h]
  rfl

theorem rtake_err (s : ByteArray) (bare : Bool) (w : World) (hE : ¬ frameE s bare = 0) :
    Calls Tryz.prog 18 #[.string s, .bool bare] w fun e w' => e = .returned (.tuple #[.agg #[.int .u8 0, .string { data := #[] }], .string { data := #[] }, .int .i64 (frameE s bare)]) ∧ Below w.heap.size w w' := by
  cases bare with
  | true =>
    unfold frameE at hE ⊢
    simp only [headN, if_true, frameN, Nat.sub_self, Nat.zero_add, Bool.true_eq_false, false_and, or_false] at hE ⊢
    have hlt := num_lt s 0
    by_cases h1 : s.size < 4
    · rw [if_pos h1]; exact rtake_few_bare s w h1
    rw [if_neg h1] at hE ⊢
    by_cases h2 : num s 0 < 4
    · rw [if_pos h2]; exact rtake_form_bare _ s w (Lib.hid rfl) (by omega) h2
    rw [if_neg h2] at hE ⊢
    by_cases h3 : 10004 < num s 0
    · rw [if_pos h3]; exact rtake_long_bare _ s w (Lib.hid rfl) (by omega) h3 hlt
    rw [if_neg h3] at hE ⊢
    by_cases h4 : s.size < num s 0
    · rw [if_pos h4]; exact rtake_more_bare _ s w (Lib.hid rfl) (by omega) (by omega) (by omega) h4
    · rw [if_neg h4] at hE; exact absurd rfl hE
  | false =>
    unfold frameE at hE ⊢
    simp only [headN, Bool.false_eq_true, if_false, frameN, true_and, show 5 - 4 = 1 from rfl] at hE ⊢
    have hlt := num_lt s 1
    by_cases h1 : s.size < 5
    · rw [if_pos h1]; exact rtake_few s w h1
    have hx : 0 < s.size := by omega
    have ht := head_byte s (by omega) hx
    rw [if_neg h1] at hE ⊢
    by_cases h2 : num s 1 < 4
    · rw [if_pos (Or.inl h2)]; exact rtake_formN _ _ s w (Lib.hid rfl) (by omega) hx ht h2
    by_cases h0 : headT s false = 0
    · rw [if_pos (Or.inr h0)]; exact rtake_formT _ s w (Lib.hid rfl) (by omega) hx (ht.trans h0) (by omega) hlt
    rw [if_neg (fun h => h.elim h2 h0)] at hE ⊢
    by_cases h3 : 10004 < num s 1
    · rw [if_pos h3]; exact rtake_long _ _ s w (Lib.hid rfl) (by omega) hx ht h3 hlt (by omega)
    rw [if_neg h3] at hE ⊢
    by_cases h4 : s.size < 1 + num s 1
    · rw [if_pos h4]; exact rtake_more _ _ s w (Lib.hid rfl) (by omega) hx ht (by omega) (by omega) (by omega) h4
    · rw [if_neg h4] at hE; exact absurd rfl hE

theorem rtake_ok (s : ByteArray) (bare : Bool) (w : World) (hE : frameE s bare = 0) :
    Calls Tryz.prog 18 #[.string s, .bool bare] w fun e w' => e = .returned (.tuple #[.agg #[.int .u8 (headT s bare : Nat), .string (frameB s bare)], .string (s.extract (frameN s bare) s.size), .int .i64 0]) ∧ Below w.heap.size w w' := by
  obtain ⟨h1, h2, h3, h4, h5⟩ := frame_good hE
  cases bare with
  | true =>
    simp only [headN, if_true, frameN, frameB, Nat.sub_self, Nat.zero_add] at h1 h2 h3 h4 ⊢
    exact rtake_good_bare _ s w (Lib.hid rfl) h1 h2 h3 h4
  | false =>
    simp only [headN, Bool.false_eq_true, if_false, frameN, frameB, show 5 - 4 = 1 from rfl] at h1 h2 h3 h4 ⊢
    have hx : 0 < s.size := by omega
    exact rtake_good _ _ s w (Lib.hid rfl) h1 hx (head_byte s (by omega) hx) h2 h3 (h5 rfl) h4
end Go.Proofs.YtmofnkinclckoaaGreatDoor

namespace Go.Proofs.YtmofnkinclckoaaGreatDoor
open Go.RowKit Go.Lib Go.WideShapes

theorem info_event18 : (Tryz.prog.info? 36).map (fun i => (i.zero, i.size, i.bytes)) = some (some (.agg #[.int .u8 0, .string { data := #[] }, .string { data := #[] }, .string { data := #[] }, .slice none 0 0]), 5, 80) := by kernel_rfl
def REvRow (w : World) (B : Nat) (v : Value) (L : List Ev) : Prop := ∃ xs, w.ownsRow B 36 5 v L.length xs ∧ ∀ i E, L[i]? = some E → EvAt w B v xs i E
theorem REvRow.nil (w : World) (B : Nat) : REvRow w B (.slice none 0 0) [] := ⟨[], ⟨rfl, .inl ⟨rfl, rfl⟩⟩, fun i x h => by cases h⟩
theorem REvRow.keep {w w' : World} {B : Nat} {v : Value} {L : List Ev} (h : REvRow w B v L) (hz : w.heap.size ≤ w'.heap.size) (hb : ∀ k, B ≤ k → k < w.heap.size → w'.heap[k]? = w.heap[k]?) : REvRow w' B v L := by
  obtain ⟨xs, h1, h2⟩ := h
  refine ⟨xs, ⟨h1.1, h1.2.imp id fun ⟨g, cap, cur, e1, e2, e3, e4⟩ => ⟨g, cap, cur, e1, e2, (hb g e2 (Array.getElem?_eq_some_iff.1 e3).1).trans e3, e4⟩⟩, fun i E hi => ?_⟩
  obtain ⟨sl, c0, c1, c2, c3, c4, c5⟩ := h2 i E hi
  exact ⟨sl, c0, c1, c2, c3, c4, c5.keep hz hb⟩
theorem REvRow.base {w : World} {B B' : Nat} {v : Value} {L : List Ev} (h : REvRow w B v L) (hB : B' ≤ B) : REvRow w B' v L := by
  obtain ⟨xs, h1, h2⟩ := h
  refine ⟨xs, ⟨h1.1, h1.2.imp id fun ⟨g, cap, cur, e1, e2, e3⟩ => ⟨g, cap, cur, e1, Nat.le_trans hB e2, e3⟩⟩, fun i E hi => ?_⟩
  obtain ⟨sl, c0, c1, c2, c3, c4, b, m, d, e1, e2, e3⟩ := h2 i E hi
  exact ⟨sl, c0, c1, c2, c3, c4, b, m, d, e1, e2, fun hn g off e => ⟨Nat.le_trans hB (e3 hn g off e).1, (e3 hn g off e).2⟩⟩
theorem REvRow.put {w w' : World} {B : Nat} {v v' sl : Value} {L : List Ev} {E : Ev} {xs : List Value} (hx : ∀ i E, L[i]? = some E → EvAt w B v xs i E) (hl : xs.length = L.length * 5) (hO : w'.ownsRow B 36 5 v' (L.length + 1) (xs ++ [.int .u8 (E.k.toNat : Nat), .string ⟨E.u.toArray⟩, .string ⟨E.d.toArray⟩, .string ⟨E.t.toArray⟩, sl])) (hE : EvNums w (fun g => B ≤ g ∧ some g ≠ v.ownBlock) E.n sl) (hg : w.grownBy w' v.ownBlock) (hf : ∀ k, v'.ownBlock = some k → v.ownBlock = some k ∨ w.heap.size ≤ k) : REvRow w' B v' (L ++ [E]) := by
  have hk : ∀ n (y : Value), EvNums w (fun g => B ≤ g ∧ some g ≠ v.ownBlock) n y → EvNums w' (fun g => B ≤ g ∧ some g ≠ v'.ownBlock) n y := by
    rintro n y ⟨b, m, d, rfl, h2, h3⟩
    refine ⟨b, m, d, rfl, ?_, fun hn g off e => ⟨(h3 hn g off e).1, fun e9 => ?_⟩⟩
    · by_cases hn : n = []
      · subst hn
        obtain ⟨a', n', c', hv, hl, h1, h2', hr⟩ := h2
        exact ⟨a', n', c', hv, hl, h1, h2', .inl rfl⟩
      · obtain ⟨a', n', c', hv, hl, h1, h2', hr⟩ := h2
        injection hv with q1 q2 q3
        subst q1 q2 q3
        exact ⟨b, m, d, rfl, hl, h1, h2', hr.imp id fun ⟨g, off, hga, hlt, hc⟩ => ⟨g, off, hga, Nat.lt_of_lt_of_le hlt hg.size, fun i t ht => hg.cell (hc i t ht) (h3 hn g off hga).2⟩⟩
    · rcases hf g e9.symm with hh | hh
      · exact (h3 hn g off e).2 hh.symm
      · obtain ⟨a', n', c', hv, hl, h1, h2', hr⟩ := h2
        injection hv with q1 q2 q3
        subst q1 q2 q3
        rcases hr with hr | ⟨g', off', hga, hlt, _⟩
        · exact hn hr
        · rw [e] at hga; cases hga; omega
  refine ⟨_, by rw [List.length_append, List.length_singleton]; exact hO, fun i F hi => ?_⟩
  by_cases hlt : i < L.length
  · rw [List.getElem?_append_left hlt] at hi
    obtain ⟨s9, c0, c1, c2, c3, c4, c5⟩ := hx i F hi
    exact ⟨s9, by rw [List.getElem?_append_left (by omega)]; exact c0, by rw [List.getElem?_append_left (by omega)]; exact c1, by rw [List.getElem?_append_left (by omega)]; exact c2, by rw [List.getElem?_append_left (by omega)]; exact c3, by rw [List.getElem?_append_left (by omega)]; exact c4, hk _ _ c5⟩
  · have hi2 : i = L.length := by
      have := (List.getElem?_eq_some_iff.1 hi).1
      rw [List.length_append, List.length_singleton] at this
      omega
    subst hi2
    rw [List.getElem?_append_right (Nat.le_refl _), Nat.sub_self] at hi
    obtain rfl : E = F := Option.some.inj hi
    exact ⟨sl, by rw [List.getElem?_append_right (by omega), show L.length * 5 - xs.length = 0 by omega]; rfl, by rw [List.getElem?_append_right (by omega), show L.length * 5 + 1 - xs.length = 1 by omega]; rfl, by rw [List.getElem?_append_right (by omega), show L.length * 5 + 2 - xs.length = 2 by omega]; rfl, by rw [List.getElem?_append_right (by omega), show L.length * 5 + 3 - xs.length = 3 by omega]; rfl, by rw [List.getElem?_append_right (by omega), show L.length * 5 + 4 - xs.length = 4 by omega]; rfl, hk _ _ hE⟩

end Go.Proofs.YtmofnkinclckoaaGreatDoor
