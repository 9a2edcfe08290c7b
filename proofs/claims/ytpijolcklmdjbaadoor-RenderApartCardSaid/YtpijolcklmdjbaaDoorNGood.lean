/- Names, identifiers, values. -/
import Derived.Test.YtpijolcklmdjbaaDoorNTaken
import Derived.Test.YtpijolcklmdjbaaDoorNRepl
namespace Go.Proofs.YtpijolcklmdjbaaDoor
open Go.RowKit Go.Lib Go.WideShapes

/-- Is it a name? -/
def goodB (l : Bs) : Bool := decide (l.length ≤ 63) && (partB (Lib.cut l [46]).1 && (!(Lib.cut l [46]).2.2 || partB (Lib.cut l [46]).2.1))
def identB (l : Bs) : Bs := if partB l && !takenB l then l else quoted 34 l

theorem cut_length (l : Bs) : (Lib.cut l [46]).1.length ≤ l.length ∧ (Lib.cut l [46]).2.1.length ≤ l.length := by
  unfold Lib.cut
  split
  · exact ⟨by rw [List.length_take]; omega, by rw [List.length_drop]; omega⟩
  · exact ⟨Nat.le_refl _, Nat.zero_le _⟩

set_option maxHeartbeats 2000000 in
theorem good_any (s : ByteArray) (m : Int) (w : World) (hs : s.size ≤ 100000) (hm : w.cell? ⟨1, 0, none⟩ = some (.int .i64 m)) :
    Calls Tryd.prog 10 #[.string s] w fun e w' => e = .returned (.bool (goodB (bytes s))) ∧ ∃ n, w' = w.drewN n := by
  have hg : goodB (bytes s) = (decide (s.size ≤ 63) && (partB (Lib.cut (bytes s) [46]).1 && (!(Lib.cut (bytes s) [46]).2.2 || partB (Lib.cut (bytes s) [46]).2.1))) := by unfold goodB; rw [bytes_len]
  rw [hg]
  have hcl := cut_length (bytes s)
  rw [bytes_len] at hcl
  have HC := Lib.hid (Tryd.strings_Cut s ⟨#[46]⟩ m w (by omega) hm)
  rw [show (⟨#[46]⟩ : ByteArray).data.toList = [46] from rfl, show s.data.toList = bytes s from rfl] at HC
  generalize Lib.cut (bytes s) [46] = q at hcl HC ⊢
  obtain ⟨x, y, two⟩ := q
  simp only at hcl HC ⊢
  have HX := Lib.hid (fun W => part_any ⟨x.toArray⟩ W (by rw [str_size]; omega))
  have HY := Lib.hid (fun W => part_any ⟨y.toArray⟩ W (by rw [str_size]; omega))
  rw [show bytes ⟨x.toArray⟩ = x by simp [bytes]] at HX
  rw [show bytes ⟨y.toArray⟩ = y by simp [bytes]] at HY
  generalize partB x = px at HX ⊢
  generalize partB y = py at HY ⊢
  clear hg hcl hm
  by_cases hl : s.size ≤ 63
  · have hl' : (s.size : Int) ≤ 63 := by omega
    rw [decide_eq_true hl, Bool.true_and]
    go_enter Tryd.func10, Tryd.ntmps10
    go_wp2_with fail
    refine HC.out.mono ?_; rintro e w1 ⟨rfl, n, rfl⟩
    go_wp2_with fail
    refine (HX.out _).mono ?_; rintro e w2 ⟨rfl, rfl⟩
    cases px with
    | false =>
      go_wp2_with fail
      go_ret
      exact ⟨rfl, n, rfl⟩
    | true =>
      cases two with
      | false =>
        go_wp2_with fail
        go_ret
        exact ⟨rfl, n, rfl⟩
      | true =>
        go_wp2_with fail
        refine (HY.out _).mono ?_; rintro e w3 ⟨rfl, rfl⟩
        go_wp2_with fail
        go_ret
        exact ⟨rfl, n, rfl⟩
  · have hl' : (63 : Int) < s.size := by omega
    rw [decide_eq_false hl, Bool.false_and]
    go_enter Tryd.func10, Tryd.ntmps10
    go_wp2_with fail
    go_ret
    exact ⟨rfl, 0, rfl⟩

set_option maxHeartbeats 2000000 in
theorem ident_any (s : ByteArray) (m : Int) (w : World) (hs : s.size ≤ 100000) (hm : w.cell? ⟨1, 0, none⟩ = some (.int .i64 m)) (hT : TakenAt w) :
    Calls Tryd.prog 20 #[.string s] w fun e w' => e = .returned (.string ⟨(identB (bytes s)).toArray⟩) ∧ Below w.heap.size w w' := by
  have HP := Lib.hid (part_any s w (by omega))
  have HK := Lib.hid (taken_any s w hT)
  have HQ := Lib.hid (quote_any 34 s m w hs hm)
  have hi : identB (bytes s) = if partB (bytes s) && !takenB (bytes s) then bytes s else quoted 34 (bytes s) := rfl
  rw [hi]
  have HE := Lib.hid (show (⟨(bytes s).toArray⟩ : ByteArray) = s by simp [bytes])
  generalize partB (bytes s) = p at HP ⊢
  generalize takenB (bytes s) = t at HK ⊢
  clear hi hT hm
  cases p with
  | false =>
    go_enter Tryd.func20, Tryd.ntmps20
    go_wp2_with fail
    refine HP.out.mono ?_; rintro e w1 ⟨rfl, rfl⟩
    go_wp2_with fail
    refine HQ.out.mono ?_; rintro e w1 ⟨rfl, hb⟩
    have HB := Lib.hid hb
    clear hb
    go_wp2_with fail
    go_ret
    exact ⟨rfl, HB.out⟩
  | true =>
    cases t with
    | true =>
      go_enter Tryd.func20, Tryd.ntmps20
      go_wp2_with fail
      refine HP.out.mono ?_; rintro e w1 ⟨rfl, rfl⟩
      go_wp2_with fail
      refine HK.out.mono ?_; rintro e w1 ⟨rfl, rfl⟩
      go_wp2_with fail
      refine HQ.out.mono ?_; rintro e w1 ⟨rfl, hb⟩
      have HB := Lib.hid hb
      clear hb
      go_wp2_with fail
      go_ret
      exact ⟨rfl, HB.out⟩
    | false =>
      go_enter Tryd.func20, Tryd.ntmps20
      go_wp2_with fail
      refine HP.out.mono ?_; rintro e w1 ⟨rfl, rfl⟩
      go_wp2_with fail
      refine HK.out.mono ?_; rintro e w1 ⟨rfl, rfl⟩
      go_wp2_with fail
      go_ret
      exact ⟨rfl, Below.refl _ _⟩

set_option maxHeartbeats 2000000 in
theorem literal_any (s : ByteArray) (m : Int) (w : World) (hs : s.size ≤ 100000) (hm : w.cell? ⟨1, 0, none⟩ = some (.int .i64 m)) :
    Calls Tryd.prog 25 #[.string s] w fun e w' => e = .returned (.string ⟨(quoted 39 (bytes s)).toArray⟩) ∧ Below w.heap.size w w' := by
  have HQ := Lib.hid (quote_any 39 s m w hs hm)
  clear hm
  go_enter Tryd.func25, Tryd.ntmps25
  go_wp2_with fail
  refine HQ.out.mono ?_; rintro e w1 ⟨rfl, hb⟩
  have HB := Lib.hid hb
  clear hb
  go_wp2_with fail
  go_ret
  exact ⟨rfl, HB.out⟩
end Go.Proofs.YtpijolcklmdjbaaDoor
