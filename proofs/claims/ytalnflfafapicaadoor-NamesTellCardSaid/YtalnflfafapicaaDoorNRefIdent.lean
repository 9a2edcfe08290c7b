/- The document's Ident. -/
import Derived.Test.YtalnflfafapicaaDoorNRefQuote
import Derived.Test.YtalnflfafapicaaDoorNRefPart
import Derived.Test.YtalnflfafapicaaDoorNGood
namespace Go.Proofs.YtalnflfafapicaaDoor
open Go.RowKit Go.Lib Go.WideShapes

theorem ri_str (s : ByteArray) : (⟨(bytes s).toArray⟩ : ByteArray) = s := by simp [bytes]
theorem taken_cell (w : World) (k : Nat) (x : Bs) (h : takenL[k]? = some x) : (w.alloc (Obj.cells #[.string { data := #[97, 108, 108] }, .string { data := #[100, 101, 102, 97, 117, 108, 116] }, .string { data := #[102, 114, 111, 109] }, .string { data := #[108, 111, 99, 97, 108] }, .string { data := #[111, 110] }, .string { data := #[115, 101, 115, 115, 105, 111, 110] }, .string { data := #[116, 111] }, .string { data := #[111, 102, 102] }, .string { data := #[116, 114, 117, 101] }, .string { data := #[102, 97, 108, 115, 101] }] 9)).cell? ⟨w.heap.size, k, none⟩ = some (.string ⟨x.toArray⟩) := by
  have hk : k < 10 := (List.getElem?_eq_some_iff.1 h).1
  rcases (by omega : k = 0 ∨ k = 1 ∨ k = 2 ∨ k = 3 ∨ k = 4 ∨ k = 5 ∨ k = 6 ∨ k = 7 ∨ k = 8 ∨ k = 9) with rfl | rfl | rfl | rfl | rfl | rfl | rfl | rfl | rfl | rfl
  all_goals (cases h; exact World.cell?_alloc_new _ _ _ _)

set_option maxHeartbeats 2000000 in
theorem refident_any (s : ByteArray) (w : World) (hs : s.size ≤ 2000) :
    Calls Tryd.prog 16 #[.string s] w fun e w' => e = .returned (.string ⟨(identB (bytes s)).toArray⟩) ∧ Below w.heap.size w w' := by
  have HP := Lib.hid (fun W => refpart_any s W (by omega))
  have HQ := Lib.hid (fun W => refquote_any 34 s W hs)
  obtain ⟨R, hR⟩ : ∃ R, R = identB (bytes s) := ⟨_, rfl⟩
  rw [← hR]
  have HR := Lib.hid (show R = if partB (bytes s) && !((takenL.drop 0).any (fun y => bytes s == y)) then bytes s else quoted 34 (bytes s) from hR)
  have HC := Lib.hid (fun k x h => taken_cell w k x h)
  have HB0 := Lib.hid ((Below.refl _ w).alloc (Nat.le_refl _) (Obj.cells #[.string { data := #[97, 108, 108] }, .string { data := #[100, 101, 102, 97, 117, 108, 116] }, .string { data := #[102, 114, 111, 109] }, .string { data := #[108, 111, 99, 97, 108] }, .string { data := #[111, 110] }, .string { data := #[115, 101, 115, 115, 105, 111, 110] }, .string { data := #[116, 111] }, .string { data := #[111, 102, 102] }, .string { data := #[116, 114, 117, 101] }, .string { data := #[102, 97, 108, 115, 101] }] 9))
  clear hR
  go_enter Tryd.func16, Tryd.ntmps16
  go_wp2_with fail
  generalize w.alloc (Obj.cells #[.string { data := #[97, 108, 108] }, .string { data := #[100, 101, 102, 97, 117, 108, 116] }, .string { data := #[102, 114, 111, 109] }, .string { data := #[108, 111, 99, 97, 108] }, .string { data := #[111, 110] }, .string { data := #[115, 101, 115, 115, 105, 111, 110] }, .string { data := #[116, 111] }, .string { data := #[111, 102, 102] }, .string { data := #[116, 114, 117, 101] }, .string { data := #[102, 97, 108, 115, 101] }] 9) = w0 at HC HB0 ⊢
  go_loopg [4] 10 (fun g v wr => ∃ k : Nat, v = .int .i64 k ∧ k ≤ 10 ∧ g = 10 - k ∧ w0 = wr ∧ R = if partB (bytes s) && !((takenL.drop k).any (fun y => bytes s == y)) then bytes s else quoted 34 (bytes s))
  case atStart => exact ⟨0, rfl, Nat.zero_le _, rfl, rfl, HR.out⟩
  case round =>
    obtain ⟨k, rfl, hk, hg, rfl, ho⟩ := hrel
    have HO := Lib.hid ho; have HG := Lib.hid hg
    clear ho hg
    by_cases hlt : k < 10
    · obtain ⟨x, hx⟩ : ∃ x, takenL[k]? = some x := ⟨_, List.getElem?_eq_getElem (by show k < 10; exact hlt)⟩
      have c0 := HC.out k x hx
      have hlt' : (k : Int) < 10 := by omega
      have HS := Lib.hid (taken_step (bytes s) k x hx)
      obtain ⟨XT, hXT⟩ : ∃ XT : ByteArray, XT = ⟨x.toArray⟩ := ⟨_, rfl⟩
      rw [← hXT] at c0
      have hxb : bytes XT = x := by rw [hXT]
      clear hx hXT
      cases hb : (bytes s == x) with
      | true =>
        have HT := Lib.hid (show R = quoted 34 (bytes s) by rw [HO.out, HS.out, hb]; simp)
        have hb2 : (XT.toList == s.toList) = true := by
          rw [Lib.toList_data, Lib.toList_data]
          have : bytes s = bytes XT := by rw [hxb]; simpa using hb
          show (bytes XT == bytes s) = true
          rw [this]; simp
        clear hb hxb
        go_wp2_with fail
        refine (HQ.out w0).mono ?_; rintro e w1 ⟨rfl, hb1⟩
        have HB1 := Lib.hid (HB0.out.step hb1 HB0.out.size)
        clear hb1
        rw [← HT.out]
        go_wp2_with fail
        go_ret
        exact ⟨rfl, HB1.out⟩
      | false =>
        have HN := Lib.hid (show R = if partB (bytes s) && !((takenL.drop (k + 1)).any (fun y => bytes s == y)) then bytes s else quoted 34 (bytes s) by rw [HO.out, HS.out, hb, Bool.false_or])
        have hb2 : (XT.toList == s.toList) = false := by
          rw [Lib.toList_data, Lib.toList_data]
          show (bytes XT == bytes s) = false
          rw [hxb]
          rw [beq_eq_false_iff_ne] at hb ⊢
          exact fun e => hb e.symm
        clear hb hxb
        go_wp2_with fail
        go_roundg (10 - (k + 1))
        case measure => have := HG.out; omega
        case rel => exact ⟨k + 1, by go_num, by omega, rfl, by first | rfl | trivial, HN.out⟩
    · obtain rfl : k = 10 := by omega
      go_wp2_with fail
      refine (HP.out w0).mono ?_; rintro e w1 ⟨rfl, rfl⟩
      cases hp : partB (bytes s) with
      | true =>
        have HT := Lib.hid (show R = bytes s by rw [HO.out, hp]; rfl)
        clear hp
        go_wp2_with fail
        go_ret
        exact ⟨by rw [HT.out, ri_str]; rfl, HB0.out⟩
      | false =>
        have HT := Lib.hid (show R = quoted 34 (bytes s) by rw [HO.out, hp]; rfl)
        clear hp
        go_wp2_with fail
        refine (HQ.out w0).mono ?_; rintro e w1 ⟨rfl, hb1⟩
        have HB1 := Lib.hid (HB0.out.step hb1 HB0.out.size)
        clear hb1
        rw [← HT.out]
        go_wp2_with fail
        go_ret
        exact ⟨rfl, HB1.out⟩
end Go.Proofs.YtalnflfafapicaaDoor
