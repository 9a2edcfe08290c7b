/- Contracts of the document's own frames. -/
import Derived.Test.YtfdffiphlpeegaaPlain
import Derived.LoopTactic
namespace Go.Proofs.Ytfdffiphlpeegaa
open Go.RowKit Go.Lib

theorem rpack_long (t : Int) (s : ByteArray) (w : World) (hs : 10000 < s.size) :
    Calls Try.prog 21 #[.agg #[.int .u8 t, .string s]] w fun e w' => e = .returned (.tuple #[.string { data := #[] }, .int .i64 3]) ∧ Below w.heap.size w w' := by
  have h' : (10000 : Int) < s.size := by omega
  go_enter Try.func21, Try.ntmps21
  go_wp2
  go_ret2
  exact ⟨rfl, (Below.refl _ _).alloc (Nat.le_refl _) _⟩

set_option maxHeartbeats 800000 in
theorem rpack_bare (s : ByteArray) (w : World) (hs : s.size ≤ 10000) :
    Calls Try.prog 21 #[.agg #[.int .u8 0, .string s]] w fun e w' => e = .returned (.tuple #[.string (packB 0 s), .int .i64 0]) ∧ Below w.heap.size w w' := by
  have hcv := conv_new (P := Try.prog) (w := w) Try.underlying62 Try.underlying5 Try.underlying9 (.cells #[.int .u8 0, .string s] 33) #[.int .u8 0, .int .u8 (((s.size : Int) + 4) / 16777216), .int .u8 (((s.size : Int) + 4) / 65536 % 256), .int .u8 (((s.size : Int) + 4) / 256 % 256), .int .u8 (((s.size : Int) + 4) % 256)] 5 1 4 4 (be4 (s.size + 4)) (by rw [be4_cells' _ (by omega)]; simp) rfl
  have hfin : ByteArray.mk (be4 (s.size + 4)).toArray ++ s = packB 0 s := by
    apply bytes_ext
    rw [packB_list, packL, if_pos rfl, size_list]
    simp
  rw [← hfin]
  clear hfin
  have hr : (ByteArray.mk (be4 (s.size + 4)).toArray).size ≤ 4 := by rw [← size_list]; simp [be4]
  generalize ByteArray.mk (be4 (s.size + 4)).toArray = r at hcv hr ⊢
  go_enter Try.func21, Try.ntmps21
  go_wp2
  go_ret2
  exact ⟨rfl, ((Below.refl _ _).alloc (Nat.le_refl _) _).alloc (by simp) _⟩

set_option maxHeartbeats 800000 in
theorem rpack_type (t : Int) (s : ByteArray) (w : World) (hs : s.size ≤ 10000) (h0 : 0 < t) (h1 : t < 256) :
    Calls Try.prog 21 #[.agg #[.int .u8 t, .string s]] w fun e w' => e = .returned (.tuple #[.string (packB t s), .int .i64 0]) ∧ Below w.heap.size w w' := by
  have htb : (t == 0) = false := by simp; omega
  have hcv := conv_new (P := Try.prog) (w := w) Try.underlying62 Try.underlying5 Try.underlying9 (.cells #[.int .u8 t, .string s] 33) #[.int .u8 t, .int .u8 (((s.size : Int) + 4) / 16777216), .int .u8 (((s.size : Int) + 4) / 65536 % 256), .int .u8 (((s.size : Int) + 4) / 256 % 256), .int .u8 (((s.size : Int) + 4) % 256)] 5 0 5 5 (UInt8.ofNat t.toNat :: be4 (s.size + 4))
    (by rw [show UInt8.ofNat t.toNat :: be4 (s.size + 4) = [UInt8.ofNat t.toNat] ++ be4 (s.size + 4) from rfl, cellsOf_append, be4_cells' _ (by omega)]; simp [cellsOf]; omega) rfl
  have hfin : ByteArray.mk (UInt8.ofNat t.toNat :: be4 (s.size + 4)).toArray ++ s = packB t s := by
    apply bytes_ext
    rw [packB_list, packL, if_neg (by omega), size_list]
    simp
  rw [← hfin]
  clear hfin
  have hr : (ByteArray.mk (UInt8.ofNat t.toNat :: be4 (s.size + 4)).toArray).size ≤ 5 := by rw [← size_list]; simp [be4]
  generalize ByteArray.mk (UInt8.ofNat t.toNat :: be4 (s.size + 4)).toArray = r at hcv hr ⊢
  go_enter Try.func21, Try.ntmps21
  go_wp2
  go_ret2
  exact ⟨rfl, ((Below.refl _ _).alloc (Nat.le_refl _) _).alloc (by simp) _⟩

theorem rpack_any (t : Int) (s : ByteArray) (w : World) (hs : s.size ≤ 10000) (h : 0 ≤ t ∧ t < 256) :
    Calls Try.prog 21 #[.agg #[.int .u8 t, .string s]] w fun e w' => e = .returned (.tuple #[.string (packB t s), .int .i64 0]) ∧ Below w.heap.size w w' := by
  by_cases h0 : t = 0
  · subst h0; exact rpack_bare s w hs
  · exact rpack_type t s w hs (by omega) h.2
end Go.Proofs.Ytfdffiphlpeegaa
