/- The words that are taken. -/
import Derived.Test.YtpijolcklmdjbaaDoorNPart
namespace Go.Proofs.YtpijolcklmdjbaaDoor
open Go.RowKit Go.Lib Go.WideShapes

/-- The words that are taken lie where the program says. -/
def TakenAt (w : World) : Prop := ∀ (i : Nat) (x : Bs), takenL[i]? = some x → w.cell? ⟨0, i, none⟩ = some (.string ⟨x.toArray⟩)
theorem TakenAt.lt {w : World} (h : TakenAt w) : 0 < w.heap.size := World.block_lt_of_cell? w ⟨0, 0, none⟩ (h 0 _ rfl)
theorem TakenAt.step {w w' : World} (h : TakenAt w) (hb : Below w.heap.size w w') : TakenAt w' := fun i x hx => (hb.cell (p := ⟨0, i, none⟩) h.lt).trans (h i x hx)

theorem taken_step (l : Bs) (k : Nat) (x : Bs) (h : takenL[k]? = some x) : (takenL.drop k).any (fun y => l == y) = ((l == x) || (takenL.drop (k + 1)).any (fun y => l == y)) := by
  rw [List.drop_eq_getElem_cons (List.getElem?_eq_some_iff.1 h).1, List.any_cons, (List.getElem?_eq_some_iff.1 h).2]

def takenV : Value := .agg #[.string { data := #[97, 108, 108] }, .string { data := #[100, 101, 102, 97, 117, 108, 116] }, .string { data := #[102, 114, 111, 109] }, .string { data := #[108, 111, 99, 97, 108] }, .string { data := #[111, 110] }, .string { data := #[115, 101, 115, 115, 105, 111, 110] }, .string { data := #[116, 111] }, .string { data := #[111, 102, 102] }, .string { data := #[116, 114, 117, 101] }, .string { data := #[102, 97, 108, 115, 101] }]
set_option maxRecDepth 100000 in
theorem taken_index (k : Nat) (x : Bs) (h : takenL[k]? = some x) (w : World) : (Instr.index 84 (.agg #[.string { data := #[97, 108, 108] }, .string { data := #[100, 101, 102, 97, 117, 108, 116] }, .string { data := #[102, 114, 111, 109] }, .string { data := #[108, 111, 99, 97, 108] }, .string { data := #[111, 110] }, .string { data := #[115, 101, 115, 115, 105, 111, 110] }, .string { data := #[116, 111] }, .string { data := #[111, 102, 102] }, .string { data := #[116, 114, 117, 101] }, .string { data := #[102, 97, 108, 115, 101] }]) (.int .i64 k)).run Tryd.prog w = .ok (.string ⟨x.toArray⟩) w := by
  have hk : k < 10 := (List.getElem?_eq_some_iff.1 h).1
  rcases (by omega : k = 0 ∨ k = 1 ∨ k = 2 ∨ k = 3 ∨ k = 4 ∨ k = 5 ∨ k = 6 ∨ k = 7 ∨ k = 8 ∨ k = 9) with rfl | rfl | rfl | rfl | rfl | rfl | rfl | rfl | rfl | rfl
  all_goals (cases h; rfl)

set_option maxHeartbeats 2000000 in
theorem taken_any (s : ByteArray) (w : World) (hT : TakenAt w) :
    Calls Tryd.prog 35 #[.string s] w fun e w' => e = .returned (.bool (takenB (bytes s))) ∧ w = w' := by
  obtain ⟨R, hR⟩ : ∃ R, R = takenB (bytes s) := ⟨_, rfl⟩
  rw [← hR]
  have HR := Lib.hid (show R = (takenL.drop 0).any (fun y => bytes s == y) from hR)
  have c0 := hT 0 _ rfl
  have c1 := hT 1 _ rfl
  have c2 := hT 2 _ rfl
  have c3 := hT 3 _ rfl
  have c4 := hT 4 _ rfl
  have c5 := hT 5 _ rfl
  have c6 := hT 6 _ rfl
  have c7 := hT 7 _ rfl
  have c8 := hT 8 _ rfl
  have c9 := hT 9 _ rfl
  clear hR hT
  go_enter Tryd.func35, Tryd.ntmps35
  go_wp2_with fail
  go_loopg [6] 10 (fun g v wr => ∃ k : Nat, v = .int .i64 k ∧ k ≤ 10 ∧ g = 10 - k ∧ wr = w ∧ R = (takenL.drop k).any (fun y => bytes s == y))
  case atStart => exact ⟨0, rfl, Nat.zero_le _, rfl, rfl, HR.out⟩
  case round =>
    obtain ⟨k, rfl, hk, hg, rfl, ho⟩ := hrel
    have HO := Lib.hid ho; have HG := Lib.hid hg
    clear ho hg
    by_cases hlt : k < 10
    · obtain ⟨x, hx⟩ : ∃ x, takenL[k]? = some x := ⟨_, List.getElem?_eq_getElem (by show k < 10; exact hlt)⟩
      have hI := taken_index k x hx wr
      have hlt' : (k : Int) < 10 := by omega
      have HS := Lib.hid (taken_step (bytes s) k x hx)
      clear hx
      cases hb : (bytes s == x) with
      | true =>
        have HT := Lib.hid (show R = true by rw [HO.out, HS.out, hb]; rfl)
        have hb2 : (s.toList == x) = true := by rw [Lib.toList_data]; exact hb
        clear hb
        go_wp2_with fail
        go_ret
        exact ⟨by rw [HT.out]; rfl, rfl⟩
      | false =>
        have HN := Lib.hid (show R = (takenL.drop (k + 1)).any (fun y => bytes s == y) by rw [HO.out, HS.out, hb]; rfl)
        have hb2 : (s.toList == x) = false := by rw [Lib.toList_data]; exact hb
        clear hb
        go_wp2_with fail
        go_roundg (10 - (k + 1))
        case measure => have := HG.out; omega
        case rel => exact ⟨k + 1, by go_num, by omega, rfl, rfl, HN.out⟩
    · obtain rfl : k = 10 := by omega
      have HF := Lib.hid (show R = false from HO.out)
      go_wp2_with fail
      go_ret
      exact ⟨by rw [HF.out]; rfl, rfl⟩
end Go.Proofs.YtpijolcklmdjbaaDoor
