/- The document's own Over. -/
import Derived.Test.YtjckfdpkcaloiaaRefPut
namespace Go.Proofs.Ytjckfdpkcaloiaa
open Go.RowKit Go.Lib Go.WideShapes

theorem put_length (g : Pairs) (n v : ByteArray) : (put g n v).length ≤ g.length + 1 := by
  induction g with
  | nil => simp [put]
  | cons p g ih =>
    unfold put
    split
    · simp; omega
    · split <;> simp

set_option maxHeartbeats 4000000 in
theorem rover_any (v u : Value) (g h : Pairs) (w : World) (hg : Holds w v g) (hh : Holds w u h) (hr : Rise g) (hsz : g.length ≤ 3000) (hsz2 : h.length ≤ 3000) :
    Calls Try.prog 20 #[v, u] w fun e w' => ∃ x, e = .returned x ∧ Holds w' x (over g h) ∧ Below w.heap.size w w' := by
  obtain ⟨a, c, rfl⟩ := hg.form
  obtain ⟨a2, c2, rfl⟩ := hh.form
  have H := Lib.hid hg; have HH := Lib.hid hh; have HR := Lib.hid hr
  clear hg hh hr
  go_enter Try.func20, Try.ntmps20
  go_wp2_with fail
  go_loopw [0, 5] (fun o i wr => ∃ (k : Nat) (r : Pairs), k ≤ h.length ∧ r.length ≤ 3000 + k ∧ i = .int .i64 k ∧ Rise r ∧ over r (h.drop k) = over g h ∧ Holds wr o r ∧ Below w.heap.size w wr) (fun _ i _ => h.length - (intOf i).toNat)
  case atStart => exact ⟨0, g, Nat.zero_le _, by omega, rfl, HR.out, rfl, H.out, Below.refl _ _⟩
  case round =>
    obtain ⟨k, r, hk, hrk, rfl, hR, hO, hX, hB⟩ := hrel
    have HRR := Lib.hid hR; have HO := Lib.hid hO; have HB := Lib.hid hB; have HX := Lib.hid hX
    obtain ⟨oa, oc, rfl⟩ := hX.form
    by_cases hlt : k < h.length
    · obtain ⟨b, off, rfl, hb, hc⟩ := HH.out.open (by omega)
      have c0 := (hB.cell (p := ⟨b, off + k * 2, none⟩) hb).trans (hc k hlt).1
      have c1 := (hB.cell (p := ⟨b, off + k * 2 + 1, none⟩) hb).trans (hc k hlt).2
      have HD := Lib.hid (List.drop_eq_getElem_cons hlt)
      obtain ⟨q, hq⟩ : ∃ q, q = h[k] := ⟨_, rfl⟩
      rw [← hq] at c0 c1 HD
      clear hc hB hq hO hX hR
      have hlt' : (k : Int) < h.length := by omega
      have hzz := HB.out.size
      go_wp2_with fail
      go_still_tail 11, (by kernel_rfl)
      change wpList _ _ _ _ _ wr.drew
      have hX2 : Holds wr.drew (.slice oa r.length oc) r := HX.out.grown (B := wr.heap.size) (Below.refl _ _).drew (Nat.le_refl _)
      have hB2 : Below w.heap.size w wr.drew := HB.out.drew
      generalize wr.drew = w2 at hX2 hB2 ⊢
      have hz2 := hB2.size
      have HX2 := Lib.hid hX2; have HB2 := Lib.hid hB2
      clear hX2 hB2
      go_wp2_with fail
      refine (rput_any _ r q.1 q.2 w2 HX2.out (by omega)).mono ?_
      rintro e w3 ⟨x, rfl, hX3, hb3⟩
      rw [rput_put HRR.out] at hX3
      have hB3 := HB2.out.step hb3 hz2
      have hpl := put_length r q.1 q.2
      have HX3 := Lib.hid hX3; have HB3 := Lib.hid hB3
      clear hX3 hB3 hb3
      go_wp2_with fail
      go_roundw
      case rel => exact ⟨k + 1, put r q.1 q.2, by omega, by omega, by go_num, put_rise HRR.out _ _, by rw [← HO.out, HD.out]; rfl, HX3.out, HB3.out⟩
      case measure => simp [intOf]; omega
    · obtain rfl : k = h.length := by omega
      clear hB hO hX hR
      go_wp2_with fail
      go_ret
      have ho := HO.out
      rw [List.drop_length] at ho
      rw [← ho]
      exact ⟨_, rfl, HX.out, HB.out⟩
end Go.Proofs.Ytjckfdpkcaloiaa
