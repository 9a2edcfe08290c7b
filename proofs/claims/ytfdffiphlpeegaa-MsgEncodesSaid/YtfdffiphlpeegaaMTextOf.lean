/- A message of texts as it stands on the wire. -/
import Derived.Test.YtfdffiphlpeegaaMEnc
import Derived.Test.YtfdffiphlpeegaaPack
namespace Go.Proofs.Ytfdffiphlpeegaa
open Go.RowKit Go.Lib Go.WideShapes

theorem pack_small (c : UInt8) (s : ByteArray) (w : World) (hs : s.size ≤ 10000) :
    Calls Try.prog 20 #[.agg #[.int .u8 (c.toNat : Nat), .string s]] w fun e w' => e = .returned (.tuple #[.string (packB (c.toNat : Nat) s), .int .i64 0]) ∧ Below w.heap.size w w' := by
  by_cases h : c.toNat = 0
  · rw [h]; exact pack_bare s w hs
  · exact pack_type _ s w hs (by omega) (by have := UInt8.toNat_lt c; omega)

def textV (c : UInt8) (r : Option Bs) : Value := .tuple #[if encE r = 0 then .string (packB (c.toNat : Nat) ⟨(r.getD []).toArray⟩) else .string { data := #[] }, .int .i64 (encE r)]

set_option maxRecDepth 100000 in
set_option maxHeartbeats 8000000 in
theorem text_of (w : World) (back : Bool) (c : UInt8) (T : List Bs) (tv : Value) (hT : TextsIn w tv T) (hr : room ⟨T, [], []⟩ ≤ 800000) :
    Calls Try.prog 11 #[.bool back, .int .u8 (c.toNat : Nat), tv] w fun e w' => e = .returned (textV c (written back c T [])) ∧ Below w.heap.size w w' := by
  have HF := Lib.hid (encode_any w back c T [] tv (.slice none 0 0) hT ⟨none, 0, 0, rfl, rfl, Nat.le_refl _, by omega, .inl rfl⟩ hr)
  generalize written back c T [] = R at HF ⊢
  obtain ⟨at', nt, ct, rfl, _⟩ := hT
  clear hr
  go_enter Try.func11, Try.ntmps11
  go_wp2_with fail
  refine HF.out.mono ?_; rintro e w1 ⟨rfl, hB1⟩
  have HB1 := Lib.hid hB1
  clear hB1
  unfold encV
  by_cases he : encE R = 0
  · cases R with
    | none => cases he
    | some B =>
      have hl : (⟨B.toArray⟩ : ByteArray).size ≤ 10000 := by
        rw [bsize]
        by_cases hb : 10000 < B.length
        · have h3 : encE (some B) = 3 := if_pos hb
          rw [h3] at he; cases he
        · omega
      rw [if_pos he, he]
      go_wp2_with fail
      refine (pack_small c _ _ hl).mono ?_; rintro e w2 ⟨rfl, hB2⟩
      have HB2 := Lib.hid hB2
      clear hB2
      go_wp2_with fail
      simp [bodyPost, results, Try.results11, go_sem, textV, he]
      exact (HB1.out.alloc (by exact HB1.out.size) _).trans (HB2.out.mono (by rw [World.size_alloc]; exact Nat.le_succ_of_le HB1.out.size))
  · have hne : (encE R == 0) = false := by simpa using he
    rw [if_neg he]
    go_wp2_with fail
    simp [bodyPost, results, Try.results11, go_sem, textV, he]
    exact HB1.out.alloc (by exact HB1.out.size) _
end Go.Proofs.Ytfdffiphlpeegaa
