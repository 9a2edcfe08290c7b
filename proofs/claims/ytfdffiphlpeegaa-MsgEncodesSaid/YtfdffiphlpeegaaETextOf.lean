/- A message of texts as it stands on the wire, as the document has it. -/
import Derived.Test.YtfdffiphlpeegaaEEnc
import Derived.Test.YtfdffiphlpeegaaRPack
import Derived.Test.YtfdffiphlpeegaaMTextOf
namespace Go.Proofs.Ytfdffiphlpeegaa
open Go.RowKit Go.Lib Go.WideShapes

set_option maxRecDepth 100000 in
set_option maxHeartbeats 8000000 in
theorem rtext_of (w : World) (back : Bool) (c : UInt8) (T : List Bs) (tv : Value) (hT : TextsIn w tv T) (hr : room ⟨T, [], []⟩ ≤ 800000) (hTl : T.length ≤ 10000) :
    Calls Try.prog 12 #[.bool back, .int .u8 (c.toNat : Nat), tv] w fun e w' => e = .returned (textV c (written back c T [])) ∧ Below w.heap.size w w' := by
  have HF := Lib.hid (rencode_any w back c T [] tv (.slice none 0 0) hT ⟨none, 0, 0, rfl, rfl, Nat.le_refl _, by omega, .inl rfl⟩ hr hTl)
  generalize written back c T [] = R at HF ⊢
  obtain ⟨at', nt, ct, rfl, _⟩ := hT
  have hc256 : c.toNat < 256 := UInt8.toNat_lt c
  clear hr hTl
  go_enter Try.func12, Try.ntmps12
  go_wp2_with fail
  refine HF.out.mono ?_; rintro e w1 ⟨rfl, hB1⟩
  have HB1 := Lib.hid hB1
  clear hB1
  unfold encV
  by_cases he : encE R = 0
  · cases R with
    | none => cases he
    | some B =>
      have hl : (⟨B.toArray⟩ : ByteArray).size ≤ 10000 := by
        rw [bsize]
        by_cases hb : 10000 < B.length
        · have h3 : encE (some B) = 3 := if_pos hb
          rw [h3] at he; cases he
        · omega
      rw [if_pos he, he]
      go_wp2_with fail
      refine (rpack_any (c.toNat : Nat) _ _ hl (by omega)).mono ?_; rintro e w2 ⟨rfl, hB2⟩
      have HB2 := Lib.hid hB2
      clear hB2
      go_wp2_with fail
      simp [bodyPost, results, Try.results12, go_sem, textV, he]
      exact (HB1.out.alloc (by exact HB1.out.size) _).trans (HB2.out.mono (by rw [World.size_alloc]; exact Nat.le_succ_of_le HB1.out.size))
  · have hne : (encE R == 0) = false := by simpa using he
    rw [if_neg he]
    go_wp2_with fail
    simp [bodyPost, results, Try.results12, go_sem, textV, he]
    exact HB1.out.alloc (by exact HB1.out.size) _
end Go.Proofs.Ytfdffiphlpeegaa
