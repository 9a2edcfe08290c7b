/- Contracts of the document's own Take. -/
import Derived.Test.YtjohgfcfnlilmaaRows
import Derived.Test.YtjohgfcfnlilmaaPlain
import Derived.LoopTactic
import Derived.RegionTactic
namespace Go.Proofs.Ytjohgfcfnlilmaa
open Go.RowKit Go.Lib

theorem rtake_few_bare (s : ByteArray) (w : World) (h : s.size < 4) :
    Calls Try.prog 16 #[.string s, .bool true] w fun e w' => e = .returned (.tuple #[.agg #[.int .u8 0, .string { data := #[] }], .string { data := #[] }, .int .i64 4]) ∧ Below w.heap.size w w' := by
  go_enter Try.func16, Try.ntmps16
  go_wp2
  refine bodyPost_ret (v := .tuple #[.agg #[.int .u8 0, .string { data := #[] }], .string { data := #[] }, .int .i64 4]) (by simp [results, Try.results16, go_sem]) rfl ⟨rfl, ?_⟩
  exact (Below.refl _ _).alloc (Nat.le_refl _) _

theorem rtake_few (s : ByteArray) (w : World) (h : s.size < 5) :
    Calls Try.prog 16 #[.string s, .bool false] w fun e w' => e = .returned (.tuple #[.agg #[.int .u8 0, .string { data := #[] }], .string { data := #[] }, .int .i64 4]) ∧ Below w.heap.size w w' := by
  go_enter Try.func16, Try.ntmps16
  go_wp2
  refine bodyPost_ret (v := .tuple #[.agg #[.int .u8 0, .string { data := #[] }], .string { data := #[] }, .int .i64 4]) (by simp [results, Try.results16, go_sem]) rfl ⟨rfl, ?_⟩
  exact (Below.refl _ _).alloc (Nat.le_refl _) _

set_option maxHeartbeats 1000000 in
theorem rtake_form_bare (m : Nat) (s : ByteArray) (w : World) (hM : Hid (num s 0 = m)) (h : 4 ≤ s.size) (hn : m < 4) :
    Calls Try.prog 16 #[.string s, .bool true] w fun e w' => e = .returned (.tuple #[.agg #[.int .u8 0, .string { data := #[] }], .string { data := #[] }, .int .i64 2]) ∧ Below w.heap.size w w' := by
  have hnum := Lib.hid ((horner_four s 0 (by omega)).trans hM.out)
  go_enter Try.func16, Try.ntmps16
  go_wp2
  go_loop [8, 9] (fun n i => ∃ k : Nat, k ≤ 4 ∧ i = .int .i64 k ∧ n = .int .i64 (horner s 0 k)) (fun _ i => 4 - (RowKit.intOf i).toNat)
  case atStart => exact ⟨0, by omega, rfl, rfl⟩
  case round =>
    obtain ⟨k, hk, rfl, rfl⟩ := hrel
    have hl := horner_le s 0 k hk (by omega)
    by_cases hlt : k < 4
    · have hL : k < s.size := by omega
      have HS := Lib.hid (show horner s 0 (k + 1) = 256 * horner s 0 k + s[k].toNat by have := horner_succ s 0 k (by omega); simpa using this)
      have hc : s[k].toNat ≤ 255 := by have := s[k].toNat_lt; omega
      go_wp2
      go_round
      case rel => exact ⟨k + 1, by omega, by go_num, by rw [HS.out]; go_num⟩
      case measure => simp [RowKit.intOf]; omega
    · obtain rfl : k = 4 := by omega
      rw [hnum.out]
      clear hnum hl hlt hk hM
      go_wp2
      refine bodyPost_ret (v := .tuple #[.agg #[.int .u8 0, .string { data := #[] }], .string { data := #[] }, .int .i64 2]) (by simp [results, Try.results16, go_sem]) rfl ⟨rfl, ?_⟩
      exact ((Below.refl _ _).alloc (Nat.le_refl _) _).alloc (by simp) _

set_option maxHeartbeats 1000000 in
theorem rtake_long_bare (m : Nat) (s : ByteArray) (w : World) (hM : Hid (num s 0 = m)) (h : 4 ≤ s.size) (hn : 10004 < m) (hm2 : m < 4294967296) :
    Calls Try.prog 16 #[.string s, .bool true] w fun e w' => e = .returned (.tuple #[.agg #[.int .u8 0, .string { data := #[] }], .string { data := #[] }, .int .i64 3]) ∧ Below w.heap.size w w' := by
  have hnum := Lib.hid ((horner_four s 0 (by omega)).trans hM.out)
  go_enter Try.func16, Try.ntmps16
  go_wp2
  go_loop [8, 9] (fun n i => ∃ k : Nat, k ≤ 4 ∧ i = .int .i64 k ∧ n = .int .i64 (horner s 0 k)) (fun _ i => 4 - (RowKit.intOf i).toNat)
  case atStart => exact ⟨0, by omega, rfl, rfl⟩
  case round =>
    obtain ⟨k, hk, rfl, rfl⟩ := hrel
    have hl := horner_le s 0 k hk (by omega)
    by_cases hlt : k < 4
    · have hL : k < s.size := by omega
      have HS := Lib.hid (show horner s 0 (k + 1) = 256 * horner s 0 k + s[k].toNat by have := horner_succ s 0 k (by omega); simpa using this)
      have hc : s[k].toNat ≤ 255 := by have := s[k].toNat_lt; omega
      go_wp2
      go_round
      case rel => exact ⟨k + 1, by omega, by go_num, by rw [HS.out]; go_num⟩
      case measure => simp [RowKit.intOf]; omega
    · obtain rfl : k = 4 := by omega
      rw [hnum.out]
      clear hnum hl hlt hk hM
      go_wp2
      refine bodyPost_ret (v := .tuple #[.agg #[.int .u8 0, .string { data := #[] }], .string { data := #[] }, .int .i64 3]) (by simp [results, Try.results16, go_sem]) rfl ⟨rfl, ?_⟩
      exact ((Below.refl _ _).alloc (Nat.le_refl _) _).alloc (by simp) _

set_option maxHeartbeats 1000000 in
theorem rtake_more_bare (m : Nat) (s : ByteArray) (w : World) (hM : Hid (num s 0 = m)) (h : 4 ≤ s.size) (hn : 4 ≤ m) (hn2 : m ≤ 10004) (hm : s.size < m) :
    Calls Try.prog 16 #[.string s, .bool true] w fun e w' => e = .returned (.tuple #[.agg #[.int .u8 0, .string { data := #[] }], .string { data := #[] }, .int .i64 4]) ∧ Below w.heap.size w w' := by
  have hnum := Lib.hid ((horner_four s 0 (by omega)).trans hM.out)
  go_enter Try.func16, Try.ntmps16
  go_wp2
  go_loop [8, 9] (fun n i => ∃ k : Nat, k ≤ 4 ∧ i = .int .i64 k ∧ n = .int .i64 (horner s 0 k)) (fun _ i => 4 - (RowKit.intOf i).toNat)
  case atStart => exact ⟨0, by omega, rfl, rfl⟩
  case round =>
    obtain ⟨k, hk, rfl, rfl⟩ := hrel
    have hl := horner_le s 0 k hk (by omega)
    by_cases hlt : k < 4
    · have hL : k < s.size := by omega
      have HS := Lib.hid (show horner s 0 (k + 1) = 256 * horner s 0 k + s[k].toNat by have := horner_succ s 0 k (by omega); simpa using this)
      have hc : s[k].toNat ≤ 255 := by have := s[k].toNat_lt; omega
      go_wp2
      go_round
      case rel => exact ⟨k + 1, by omega, by go_num, by rw [HS.out]; go_num⟩
      case measure => simp [RowKit.intOf]; omega
    · obtain rfl : k = 4 := by omega
      rw [hnum.out]
      clear hnum hl hlt hk hM
      go_wp2
      refine bodyPost_ret (v := .tuple #[.agg #[.int .u8 0, .string { data := #[] }], .string { data := #[] }, .int .i64 4]) (by simp [results, Try.results16, go_sem]) rfl ⟨rfl, ?_⟩
      exact ((Below.refl _ _).alloc (Nat.le_refl _) _).alloc (by simp) _

set_option maxHeartbeats 1000000 in
theorem rtake_good_bare (m : Nat) (s : ByteArray) (w : World) (hM : Hid (num s 0 = m)) (h : 4 ≤ s.size) (hn : 4 ≤ m) (hn2 : m ≤ 10004) (hm : m ≤ s.size) :
    Calls Try.prog 16 #[.string s, .bool true] w fun e w' => e = .returned (.tuple #[.agg #[.int .u8 0, .string (s.extract 4 m)], .string (s.extract m s.size), .int .i64 0]) ∧ Below w.heap.size w w' := by
  have hnum := Lib.hid ((horner_four s 0 (by omega)).trans hM.out)
  go_enter Try.func16, Try.ntmps16
  go_wp2
  go_loop [8, 9] (fun n i => ∃ k : Nat, k ≤ 4 ∧ i = .int .i64 k ∧ n = .int .i64 (horner s 0 k)) (fun _ i => 4 - (RowKit.intOf i).toNat)
  case atStart => exact ⟨0, by omega, rfl, rfl⟩
  case round =>
    obtain ⟨k, hk, rfl, rfl⟩ := hrel
    have hl := horner_le s 0 k hk (by omega)
    by_cases hlt : k < 4
    · have hL : k < s.size := by omega
      have HS := Lib.hid (show horner s 0 (k + 1) = 256 * horner s 0 k + s[k].toNat by have := horner_succ s 0 k (by omega); simpa using this)
      have hc : s[k].toNat ≤ 255 := by have := s[k].toNat_lt; omega
      go_wp2
      go_round
      case rel => exact ⟨k + 1, by omega, by go_num, by rw [HS.out]; go_num⟩
      case measure => simp [RowKit.intOf]; omega
    · obtain rfl : k = 4 := by omega
      rw [hnum.out]
      clear hnum hl hlt hk hM
      go_wp2
      go_region
      go_wp2
      refine bodyPost_ret (v := .tuple #[.agg #[.int .u8 0, .string (s.extract 4 m)], .string (s.extract m s.size), .int .i64 0]) (by simp [results, Try.results16, go_sem]) rfl ⟨rfl, ?_⟩
      exact (((Below.refl _ _).alloc (Nat.le_refl _) _).alloc (by simp) _).drew

set_option maxHeartbeats 1000000 in
theorem rtake_formN (t : Nat) (m : Nat) (s : ByteArray) (w : World) (hM : Hid (num s 1 = m)) (h : 5 ≤ s.size) (hx : 0 < s.size) (ht : (s[0]'hx).toNat = t) (hn : m < 4) :
    Calls Try.prog 16 #[.string s, .bool false] w fun e w' => e = .returned (.tuple #[.agg #[.int .u8 0, .string { data := #[] }], .string { data := #[] }, .int .i64 2]) ∧ Below w.heap.size w w' := by
  have hnum := Lib.hid ((horner_four s 1 (by omega)).trans hM.out)
  go_enter Try.func16, Try.ntmps16
  go_wp2
  go_loop [8, 9] (fun n i => ∃ k : Nat, k ≤ 4 ∧ i = .int .i64 k ∧ n = .int .i64 (horner s 1 k)) (fun _ i => 4 - (RowKit.intOf i).toNat)
  case atStart => exact ⟨0, by omega, rfl, rfl⟩
  case round =>
    obtain ⟨k, hk, rfl, rfl⟩ := hrel
    have hl := horner_le s 1 k hk (by omega)
    by_cases hlt : k < 4
    · have hL : 1 + k < s.size := by omega
      have HS := Lib.hid (show horner s 1 (k + 1) = 256 * horner s 1 k + s[1 + k].toNat by have := horner_succ s 1 k (by omega); simpa using this)
      have hc : s[1 + k].toNat ≤ 255 := by have := s[1 + k].toNat_lt; omega
      go_wp2
      go_round
      case rel => exact ⟨k + 1, by omega, by go_num, by rw [HS.out]; go_num⟩
      case measure => simp [RowKit.intOf]; omega
    · obtain rfl : k = 4 := by omega
      rw [hnum.out]
      clear hnum hl hlt hk hM
      go_wp2
      refine bodyPost_ret (v := .tuple #[.agg #[.int .u8 0, .string { data := #[] }], .string { data := #[] }, .int .i64 2]) (by simp [results, Try.results16, go_sem]) rfl ⟨rfl, ?_⟩
      exact ((Below.refl _ _).alloc (Nat.le_refl _) _).alloc (by simp) _

set_option maxHeartbeats 1000000 in
theorem rtake_formT (m : Nat) (s : ByteArray) (w : World) (hM : Hid (num s 1 = m)) (h : 5 ≤ s.size) (hx : 0 < s.size) (ht : (s[0]'hx).toNat = 0) (hn : 4 ≤ m) (hm2 : m < 4294967296) :
    Calls Try.prog 16 #[.string s, .bool false] w fun e w' => e = .returned (.tuple #[.agg #[.int .u8 0, .string { data := #[] }], .string { data := #[] }, .int .i64 2]) ∧ Below w.heap.size w w' := by
  have hnum := Lib.hid ((horner_four s 1 (by omega)).trans hM.out)
  go_enter Try.func16, Try.ntmps16
  go_wp2
  go_loop [8, 9] (fun n i => ∃ k : Nat, k ≤ 4 ∧ i = .int .i64 k ∧ n = .int .i64 (horner s 1 k)) (fun _ i => 4 - (RowKit.intOf i).toNat)
  case atStart => exact ⟨0, by omega, rfl, rfl⟩
  case round =>
    obtain ⟨k, hk, rfl, rfl⟩ := hrel
    have hl := horner_le s 1 k hk (by omega)
    by_cases hlt : k < 4
    · have hL : 1 + k < s.size := by omega
      have HS := Lib.hid (show horner s 1 (k + 1) = 256 * horner s 1 k + s[1 + k].toNat by have := horner_succ s 1 k (by omega); simpa using this)
      have hc : s[1 + k].toNat ≤ 255 := by have := s[1 + k].toNat_lt; omega
      go_wp2
      go_round
      case rel => exact ⟨k + 1, by omega, by go_num, by rw [HS.out]; go_num⟩
      case measure => simp [RowKit.intOf]; omega
    · obtain rfl : k = 4 := by omega
      rw [hnum.out]
      clear hnum hl hlt hk hM
      go_wp2
      refine bodyPost_ret (v := .tuple #[.agg #[.int .u8 0, .string { data := #[] }], .string { data := #[] }, .int .i64 2]) (by simp [results, Try.results16, go_sem]) rfl ⟨rfl, ?_⟩
      exact ((Below.refl _ _).alloc (Nat.le_refl _) _).alloc (by simp) _

set_option maxHeartbeats 1000000 in
theorem rtake_long (t : Nat) (m : Nat) (s : ByteArray) (w : World) (hM : Hid (num s 1 = m)) (h : 5 ≤ s.size) (hx : 0 < s.size) (ht : (s[0]'hx).toNat = t) (hn : 10004 < m) (hm2 : m < 4294967296) (ht0 : 0 < t) :
    Calls Try.prog 16 #[.string s, .bool false] w fun e w' => e = .returned (.tuple #[.agg #[.int .u8 0, .string { data := #[] }], .string { data := #[] }, .int .i64 3]) ∧ Below w.heap.size w w' := by
  have hnum := Lib.hid ((horner_four s 1 (by omega)).trans hM.out)
  have hz : ((t : Int) == 0) = false := by simp; omega
  go_enter Try.func16, Try.ntmps16
  go_wp2
  go_loop [8, 9] (fun n i => ∃ k : Nat, k ≤ 4 ∧ i = .int .i64 k ∧ n = .int .i64 (horner s 1 k)) (fun _ i => 4 - (RowKit.intOf i).toNat)
  case atStart => exact ⟨0, by omega, rfl, rfl⟩
  case round =>
    obtain ⟨k, hk, rfl, rfl⟩ := hrel
    have hl := horner_le s 1 k hk (by omega)
    by_cases hlt : k < 4
    · have hL : 1 + k < s.size := by omega
      have HS := Lib.hid (show horner s 1 (k + 1) = 256 * horner s 1 k + s[1 + k].toNat by have := horner_succ s 1 k (by omega); simpa using this)
      have hc : s[1 + k].toNat ≤ 255 := by have := s[1 + k].toNat_lt; omega
      go_wp2
      go_round
      case rel => exact ⟨k + 1, by omega, by go_num, by rw [HS.out]; go_num⟩
      case measure => simp [RowKit.intOf]; omega
    · obtain rfl : k = 4 := by omega
      rw [hnum.out]
      clear hnum hl hlt hk hM
      go_wp2
      refine bodyPost_ret (v := .tuple #[.agg #[.int .u8 0, .string { data := #[] }], .string { data := #[] }, .int .i64 3]) (by simp [results, Try.results16, go_sem]) rfl ⟨rfl, ?_⟩
      exact ((Below.refl _ _).alloc (Nat.le_refl _) _).alloc (by simp) _

set_option maxHeartbeats 1000000 in
theorem rtake_more (t : Nat) (m : Nat) (s : ByteArray) (w : World) (hM : Hid (num s 1 = m)) (h : 5 ≤ s.size) (hx : 0 < s.size) (ht : (s[0]'hx).toNat = t) (hn : 4 ≤ m) (hn2 : m ≤ 10004) (ht0 : 0 < t) (hm : s.size < 1 + m) :
    Calls Try.prog 16 #[.string s, .bool false] w fun e w' => e = .returned (.tuple #[.agg #[.int .u8 0, .string { data := #[] }], .string { data := #[] }, .int .i64 4]) ∧ Below w.heap.size w w' := by
  have hnum := Lib.hid ((horner_four s 1 (by omega)).trans hM.out)
  have hz : ((t : Int) == 0) = false := by simp; omega
  go_enter Try.func16, Try.ntmps16
  go_wp2
  go_loop [8, 9] (fun n i => ∃ k : Nat, k ≤ 4 ∧ i = .int .i64 k ∧ n = .int .i64 (horner s 1 k)) (fun _ i => 4 - (RowKit.intOf i).toNat)
  case atStart => exact ⟨0, by omega, rfl, rfl⟩
  case round =>
    obtain ⟨k, hk, rfl, rfl⟩ := hrel
    have hl := horner_le s 1 k hk (by omega)
    by_cases hlt : k < 4
    · have hL : 1 + k < s.size := by omega
      have HS := Lib.hid (show horner s 1 (k + 1) = 256 * horner s 1 k + s[1 + k].toNat by have := horner_succ s 1 k (by omega); simpa using this)
      have hc : s[1 + k].toNat ≤ 255 := by have := s[1 + k].toNat_lt; omega
      go_wp2
      go_round
      case rel => exact ⟨k + 1, by omega, by go_num, by rw [HS.out]; go_num⟩
      case measure => simp [RowKit.intOf]; omega
    · obtain rfl : k = 4 := by omega
      rw [hnum.out]
      clear hnum hl hlt hk hM
      go_wp2
      refine bodyPost_ret (v := .tuple #[.agg #[.int .u8 0, .string { data := #[] }], .string { data := #[] }, .int .i64 4]) (by simp [results, Try.results16, go_sem]) rfl ⟨rfl, ?_⟩
      exact ((Below.refl _ _).alloc (Nat.le_refl _) _).alloc (by simp) _

set_option maxHeartbeats 1000000 in
theorem rtake_good (t : Nat) (m : Nat) (s : ByteArray) (w : World) (hM : Hid (num s 1 = m)) (h : 5 ≤ s.size) (hx : 0 < s.size) (ht : (s[0]'hx).toNat = t) (hn : 4 ≤ m) (hn2 : m ≤ 10004) (ht0 : 0 < t) (hm : 1 + m ≤ s.size) :
    Calls Try.prog 16 #[.string s, .bool false] w fun e w' => e = .returned (.tuple #[.agg #[.int .u8 t, .string (s.extract 5 (1 + m))], .string (s.extract (1 + m) s.size), .int .i64 0]) ∧ Below w.heap.size w w' := by
  have hnum := Lib.hid ((horner_four s 1 (by omega)).trans hM.out)
  have hz : ((t : Int) == 0) = false := by simp; omega
  have hsl := fun W => run_slice_string (P := Try.prog) (w := W) 9 s .i64 .i64 5 (1 + (m : Int)) Try.underlying9 (by omega) (by omega) (by omega)
  go_enter Try.func16, Try.ntmps16
  go_wp2
  go_loop [8, 9] (fun n i => ∃ k : Nat, k ≤ 4 ∧ i = .int .i64 k ∧ n = .int .i64 (horner s 1 k)) (fun _ i => 4 - (RowKit.intOf i).toNat)
  case atStart => exact ⟨0, by omega, rfl, rfl⟩
  case round =>
    obtain ⟨k, hk, rfl, rfl⟩ := hrel
    have hl := horner_le s 1 k hk (by omega)
    by_cases hlt : k < 4
    · have hL : 1 + k < s.size := by omega
      have HS := Lib.hid (show horner s 1 (k + 1) = 256 * horner s 1 k + s[1 + k].toNat by have := horner_succ s 1 k (by omega); simpa using this)
      have hc : s[1 + k].toNat ≤ 255 := by have := s[1 + k].toNat_lt; omega
      go_wp2
      go_round
      case rel => exact ⟨k + 1, by omega, by go_num, by rw [HS.out]; go_num⟩
      case measure => simp [RowKit.intOf]; omega
    · obtain rfl : k = 4 := by omega
      rw [hnum.out]
      clear hnum hl hlt hk hM
      go_wp2
      go_region
      go_wp2
      refine bodyPost_ret (v := .tuple #[.agg #[.int .u8 t, .string (s.extract 5 (1 + m))], .string (s.extract (1 + m) s.size), .int .i64 0]) (by simp [results, Try.results16, go_sem]) rfl ⟨rfl, ?_⟩
      exact (((Below.refl _ _).alloc (Nat.le_refl _) _).alloc (by simp) _).drew

end Go.Proofs.Ytjohgfcfnlilmaa
