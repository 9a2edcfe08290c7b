/- Package value: what each kind of type does: bool, int, text. -/
import Derived.Test.YtaalopiegabghaaGreatDoorVWhole
import Derived.Test.YtaalopiegabghaaGreatDoorRReal
import Derived.Handy
namespace Go.Proofs.YtaalopiegabghaaGreatDoor
open Go.RowKit Go.Lib Go.WideShapes

theorem cE_two (l : Bs) : cE l = 0 ∨ cE l = 9 := by
  unfold cE
  split
  · exact .inl rfl
  · exact .inr rfl
set_option maxHeartbeats 4000000 in
theorem ownform_any (s : ByteArray) (w : World) (hT : Tabs w) (hw : 1 ≤ w.heap.size) (hs : s.size ≤ 1000000) :
    Calls Tryz.prog 167 #[.string s] w fun e w' => e = .returned (.bool (decide (cE (bytes s) = 0) && cS (bytes s) == bytes s)) ∧ Below w.heap.size w w' := by
  have HC := Lib.hid (canon_at s w hT hw hs)
  have h2 := cE_two (bytes s)
  obtain ⟨F, hF⟩ : ∃ F : ByteArray, F = ⟨(cS (bytes s)).toArray⟩ := ⟨_, rfl⟩
  have hz : (F.toList == s.toList) = (cS (bytes s) == bytes s) := by rw [hF, mk_data, Lib.toList_data]
  rw [← hF] at HC
  rw [← hz]
  clear hz hF hT
  generalize cE (bytes s) = e0 at HC h2 ⊢
  rcases h2 with rfl | rfl
  · rw [decide_eq_true rfl, Bool.true_and]
    go_enter Tryz.func167, Tryz.ntmps167
    go_wp2_with fail
    refine HC.out.mono ?_; rintro e w1 ⟨rfl, hb⟩
    have H1 := Lib.hid hb
    clear hb
    go_wp2_with fail
    go_ret
    exact ⟨rfl, H1.out⟩
  · rw [decide_eq_false (by decide), Bool.false_and]
    go_enter Tryz.func167, Tryz.ntmps167
    go_wp2_with fail
    refine HC.out.mono ?_; rintro e w1 ⟨rfl, hb⟩
    have H1 := Lib.hid hb
    clear hb
    go_wp2_with fail
    go_ret
    exact ⟨rfl, H1.out⟩
set_option maxHeartbeats 4000000 in
theorem nameone_any (s : ByteArray) (w : World) (hs : s.size ≤ 1000000) :
    Calls Tryz.prog 172 #[.string s] w fun e w' => e = .returned (.bool (nameB (bytes s))) ∧ Below w.heap.size w w' := by
  have hn : nameB (bytes s) = (decide (1 ≤ s.size) && (decide (s.size ≤ 20) && (trimS (bytes s) azB).isEmpty)) := by
    unfold nameB; rw [bytes_len, all_az]
  rw [hn]
  clear hn
  by_cases h1 : 1 ≤ s.size
  · rw [decide_eq_true h1, Bool.true_and]
    have h1' : (1 : Int) ≤ s.size := by omega
    by_cases h2 : s.size ≤ 20
    · rw [decide_eq_true h2, Bool.true_and]
      have h2' : (s.size : Int) ≤ 20 := by omega
      have HTr := Lib.hid (Any.strings_Trim_laid { Tryz.lays160 with } (by kernel_rfl) s ⟨#[97, 98, 99, 100, 101, 102, 103, 104, 105, 106, 107, 108, 109, 110, 111, 112, 113, 114, 115, 116, 117, 118, 119, 120, 121, 122]⟩ w (by omega) (by decide) (ascii_of_all (by decide)))
      obtain ⟨Q, hQ⟩ : ∃ Q : ByteArray, Q = ⟨(trimS (bytes s) azB).toArray⟩ := ⟨_, rfl⟩
      have hQe : Q.toList.isEmpty = (trimS (bytes s) azB).isEmpty := by rw [hQ, mk_data]
      have HQ := Lib.hid hQ
      obtain ⟨R, hR⟩ : ∃ R, R = (trimS (bytes s) azB).isEmpty := ⟨_, rfl⟩
      rw [← hR] at hQe ⊢
      clear hQ hR h1 h2
      go_enter Tryz.func172, Tryz.ntmps172
      go_wp2_with fail
      refine HTr.out.mono ?_; rintro e w1 ⟨he, hb⟩
      have he2 : e = .returned (.string Q) := by rw [he, HQ.out]
      subst he2
      clear he
      go_wp2_with fail
      go_ret
      exact ⟨rfl, hb⟩
    · rw [decide_eq_false h2, Bool.false_and]
      have h2' : (20 : Int) < s.size := by omega
      clear h1 h2
      go_enter Tryz.func172, Tryz.ntmps172
      go_wp2_with fail
      go_ret
      exact ⟨rfl, Below.refl _ _⟩
  · rw [decide_eq_false h1, Bool.false_and]
    have h1' : (s.size : Int) < 1 := by omega
    clear h1
    go_enter Tryz.func172, Tryz.ntmps172
    go_wp2_with fail
    go_ret
    exact ⟨rfl, Below.refl _ _⟩

theorem boolright_any (b : Bool) (w : World) : Calls Tryz.prog 155 #[.agg #[.bool b]] w fun e w' => e = .returned (.bool b) ∧ Below w.heap.size w w' := by
  go_enter Tryz.func155, Tryz.ntmps155
  go_wp2_with fail
  go_ret
  exact ⟨rfl, (Below.refl _ _).alloc (Nat.le_refl _) _⟩
theorem textright_any (b : Bool) (w : World) : Calls Tryz.prog 176 #[.agg #[.bool b]] w fun e w' => e = .returned (.bool b) ∧ Below w.heap.size w w' := by
  go_enter Tryz.func176, Tryz.ntmps176
  go_wp2_with fail
  go_ret
  exact ⟨rfl, (Below.refl _ _).alloc (Nat.le_refl _) _⟩
/-- What a kind gives for a value. -/
def FormOut (r : Option Bs) (w : World) (e : Ending) (w' : World) : Prop := e = .returned (.tuple #[.string ⟨(r.getD []).toArray⟩, .bool r.isSome]) ∧ Below w.heap.size w w'
def boolF (s : Bs) : Option Bs := if onL.contains (s.map low) = true then some onB else if offL.contains (s.map low) = true then some offB else none
set_option maxHeartbeats 4000000 in
theorem boolcanon_any (b : Bool) (s : ByteArray) (w : World) (hs : s.size ≤ 1000000) :
    Calls Tryz.prog 153 #[.agg #[.bool b], .string s] w (FormOut (boolF (bytes s)) w) := by
  have HFo := Lib.hid (fun W => fold_wide s W hs)
  unfold boolF
  generalize (bytes s).map low = l at HFo ⊢
  obtain ⟨R, hR⟩ : ∃ R : Option Bs, R = (if onL.contains l = true then some onB else if offL.contains l = true then some offB else none) := ⟨_, rfl⟩
  rw [← hR]
  have HB0 := Lib.hid ((Below.refl w.heap.size w).alloc (Nat.le_refl _) (.cells #[.bool b] 49))
  have two : ∀ (L : List Bs) (x : Bs), L.contains x = true ↔ x ∈ L := fun L x => by simp
  by_cases h1 : l ∈ onL
  · have HR := Lib.hid (show R = some onB by rw [hR, if_pos ((two _ _).2 h1)])
    clear hR
    simp only [onL, List.mem_cons, List.not_mem_nil, or_false] at h1
    rcases h1 with rfl | rfl | rfl | rfl
    all_goals
      go_enter Tryz.func153, Tryz.ntmps153
      go_wp2_with fail
      refine (HFo.out _).mono ?_; rintro e w1 ⟨rfl, hb⟩
      have H1 := Lib.hid (HB0.out.on hb)
      clear hb
      go_wp2_with fail
      go_ret2
      exact ⟨by rw [HR.out]; rfl, H1.out⟩
  · by_cases h2 : l ∈ offL
    · have HR := Lib.hid (show R = some offB by rw [hR, if_neg (mt (two _ _).1 h1), if_pos ((two _ _).2 h2)])
      clear hR h1
      simp only [offL, List.mem_cons, List.not_mem_nil, or_false] at h2
      rcases h2 with rfl | rfl | rfl | rfl
      all_goals
        go_enter Tryz.func153, Tryz.ntmps153
        go_wp2_with fail
        refine (HFo.out _).mono ?_; rintro e w1 ⟨rfl, hb⟩
        have H1 := Lib.hid (HB0.out.on hb)
        clear hb
        go_wp2_with fail
        go_ret2
        exact ⟨by rw [HR.out]; rfl, H1.out⟩
    · have HR := Lib.hid (show R = none by rw [hR, if_neg (mt (two _ _).1 h1), if_neg (mt (two _ _).1 h2)])
      obtain ⟨L, hL⟩ : ∃ L : ByteArray, L = ⟨l.toArray⟩ := ⟨_, rfl⟩
      rw [← hL] at HFo
      have nb : ∀ k : Bs, l ≠ k → (L.toList == k) = false := fun k hk => by rw [hL, mk_data, beq_eq_false_iff_ne]; exact hk
      simp only [onL, offL, List.mem_cons, List.not_mem_nil, or_false, not_or] at h1 h2
      have a1 := nb [111, 110] h1.1
      have a2 := nb [116, 114, 117, 101] h1.2.1
      have a3 := nb [121, 101, 115] h1.2.2.1
      have a4 := nb [49] h1.2.2.2
      have b1 := nb [111, 102, 102] h2.1
      have b2 := nb [102, 97, 108, 115, 101] h2.2.1
      have b3 := nb [110, 111] h2.2.2.1
      have b4 := nb [48] h2.2.2.2
      clear hR h1 h2 nb hL
      go_enter Tryz.func153, Tryz.ntmps153
      go_wp2_with fail
      refine (HFo.out _).mono ?_; rintro e w1 ⟨rfl, hb⟩
      have H1 := Lib.hid (HB0.out.on hb)
      clear hb
      go_wp2_with fail
      go_ret2
      exact ⟨by rw [HR.out]; rfl, H1.out⟩
end Go.Proofs.YtaalopiegabghaaGreatDoor
