/- Any body of at most 10000 bytes, any text behind of at most 500: WireBares answers true, and leaves what was there as it was. -/
import Derived.Test.YtjohgfcfnlilmaaRows
import Derived.Test.YtjohgfcfnlilmaaPlain
import Derived.Test.YtjohgfcfnlilmaaPlainTake
import Derived.Test.YtjohgfcfnlilmaaPack
import Derived.Test.YtjohgfcfnlilmaaShown
import Derived.Test.YtjohgfcfnlilmaaFrame
import Derived.Test.YtjohgfcfnlilmaaTake
namespace Go.Proofs.Ytjohgfcfnlilmaa
open Go.ChangeShapes Go.WideShapes Go.ChangeAt Go.RowKit Go.Joins

theorem bare_byte (body tail : ByteArray) (hb : body.size ≤ 10000) : headT (packB 0 body ++ tail) false = 0 := by
  have e : (packB 0 body ++ tail).data.toList = UInt8.ofNat ((body.data.toList.length + 4) / 16777216) :: ((be4 (body.data.toList.length + 4)).tail ++ (body.data.toList ++ tail.data.toList)) := by
    rw [append_list, packB_list, packL, if_pos rfl]
    simp [be4]
  rw [headT, e, size_list, if_neg (by simp)]
  simp
  omega

theorem bare_wrong (body tail : ByteArray) (hb : body.size ≤ 10000) :
    frameE (packB 0 body ++ tail) false = if (packB 0 body).size + tail.size < 5 then 4 else 2 := by
  have h := bare_byte body tail hb
  unfold frameE
  rw [append_size]
  have e : headN false = 5 := rfl
  rw [e]
  by_cases h1 : (packB 0 body).size + tail.size < 5
  · rw [if_pos h1, if_pos h1]
  · rw [if_neg h1, if_neg h1, if_pos (Or.inr ⟨rfl, h⟩)]

set_option maxHeartbeats 1000000 in
theorem bares_walk (body tail s : ByteArray) (E : Int) (w : World) (hs1 : s.size ≤ 10005) (hb : body.size ≤ 10000) (htail : tail.size ≤ 500) (hE : (s.size + tail.size < 5 ∧ E = 4) ∨ (¬ s.size + tail.size < 5 ∧ E = 2))
    (hP : ∀ w, Calls Try.prog 12 #[.agg #[.int .u8 0, .string body]] w fun e w' => e = .returned (.tuple #[.string s, .int .i64 0]) ∧ Below w.heap.size w w')
    (hT : ∀ w, Calls Try.prog 15 #[.string (s ++ tail), .bool true] w fun e w' => e = .returned (.tuple #[.agg #[.int .u8 0, .string body], .string tail, .int .i64 0]) ∧ Below w.heap.size w w')
    (hC : ∀ w, Calls Try.prog 15 #[.string (s ++ tail), .bool false] w fun e w' => e = .returned (.tuple #[.agg #[.int .u8 0, .string { data := #[] }], .string { data := #[] }, .int .i64 E]) ∧ Below w.heap.size w w') :
    Calls Try.prog 10 #[.string body, .string tail] w fun e w' => e = .returned (.bool true) ∧ Below w.heap.size w w' := by
  have HP := Lib.hid hP; have HT := Lib.hid hT; have HC := Lib.hid hC
  clear hP hT hC
  rcases hE with ⟨hE, rfl⟩ | ⟨hE, rfl⟩
  all_goals
    go_enter Try.func10, Try.ntmps10
    go_wp2_with fail
    refine (shown_true _).mono ?_; rintro e w1 ⟨rfl, hb1⟩
    have hB1 : Below w.heap.size w w1 := hb1
    go_wp2_with fail
    refine (HP.out _).mono ?_; rintro e w2 ⟨rfl, hb2⟩
    have hB2 := hB1.step hb2 hB1.size
    go_wp2_with fail
    refine (HT.out _).mono ?_; rintro e w3 ⟨rfl, hb3⟩
    have hB3 := hB2.step hb3 hB2.size
    go_wp2_with fail
    refine (HC.out _).mono ?_; rintro e w4 ⟨rfl, hb4⟩
    obtain ⟨hc4, hf4, hz4⟩ := one_box hb4
    have hB4 : Below w.heap.size w w4 := (hB3.alloc hB3.size _).step hb4 (by have := hB3.size; simp; omega)
    clear hb1 hb2 hb3 hb4 hB1 hB2 hB3
    have hz : w.heap.size ≤ w4.heap.size := hB4.size
    go_wp2
    go_ret
    exact ⟨rfl, hB4.alloc hz _⟩

theorem bares_ok (body tail : ByteArray) (w : World) :
    Calls Try.prog 10 #[.string body, .string tail] w fun e w' => e = .returned (.bool true) ∧ Below w.heap.size w w' := by
  by_cases hb : body.size ≤ 10000
  · by_cases ht : tail.size ≤ 500
    · have hp := packB_size 0 body
      have h1 : (packB 0 body).size ≤ 10005 := by rw [hp]; simp; omega
      obtain ⟨g1, g2, g3, g4⟩ := good_pack 0 (by omega) body tail _ hb rfl
      have hw := bare_wrong body tail hb
      have hb0 : isBare 0 = true := rfl
      rw [hb0] at g1 g2 g3 g4
      refine bares_walk body tail (packB 0 body) (frameE (packB 0 body ++ tail) false) w h1 hb ht ?_ (fun w => pack_bare body w hb) (fun w => ?_) (fun w => ?_)
      · rw [hw]
        by_cases h5 : (packB 0 body).size + tail.size < 5
        · exact Or.inl ⟨h5, if_pos h5⟩
        · exact Or.inr ⟨h5, if_neg h5⟩
      · have := take_good (packB 0 body ++ tail) true w g1
        rw [g2, g3, g4] at this
        exact this
      · refine take_err (packB 0 body ++ tail) false w ?_
        rw [hw]
        split <;> decide
    · have ht' : (500 : Int) < tail.size := by omega
      go_enter Try.func10, Try.ntmps10
      go_wp2_with fail
      refine (shown_true _).mono ?_; rintro e w1 ⟨rfl, hb1⟩
      go_wp2
      go_ret
      exact ⟨rfl, hb1⟩
  · have hb' : (10000 : Int) < body.size := by omega
    go_enter Try.func10, Try.ntmps10
    go_wp2_with fail
    refine (shown_true _).mono ?_; rintro e w1 ⟨rfl, hb1⟩
    go_wp2
    go_ret
    exact ⟨rfl, hb1⟩

set_option maxRecDepth 100000 in
theorem bares_lifted (os : Os) (started : os.Started) (H : Type) (enc : TypeId × Value → H) :
    ReturnsInHanded {} Try.checked os 10 .any (Rows.wireBaresSpec.pre6 enc Try.prog Try.f10 Rows.wireBaresRow.domain false) (Rows.wireBaresSpec.post enc Try.prog Try.f10 false true false false) := by
  refine returnsInHanded_of_change (C := Try.checked) own started (by kernel_rfl) Try.func10
    (ChangeSpec.witness6 (enc := enc) (C := Try.checked) false ⟨#[], #[.string { data := #[] }, .string { data := #[] }], []⟩ 8 (by kernel_rfl) (by kernel_rfl) (by kernel_rfl) (by kernel_rfl)) ?_
  intro W base args ds gs before hval0 hW _ _
  have hval : ∀ (j : Nat) t v, Try.f10.params[j]? = some t → args[j]? = some v → Value.okWide Try.prog W .any base t v := hval0
  have hW' := hW
  obtain ⟨p, q, hA0, hV, rfl, _, _⟩ := hW
  have hA : DataW.TrodAll enc Try.prog W 0 (fun _ => true) true Try.f10.params.toList args.toList ds p := hA0
  rw [Try.params10] at hA hval
  obtain ⟨v0, v1, d0, d1, p0, p1, rfl, rfl, rfl, h0, h1⟩ := trodAll_two hA
  obtain ⟨rfl, rfl⟩ := trodVars_none hV
  obtain ⟨body, rfl, rfl, rfl, hl_body⟩ := Go.ChangeMaps.open_string Try.underlying9 (hval 0 9 v0 rfl rfl) h0
  obtain ⟨tail, rfl, rfl, rfl, hl_tail⟩ := Go.ChangeMaps.open_string Try.underlying9 (hval 1 9 v1 rfl rfl) h1
  refine (bares_ok body tail W).mono fun e W' ⟨he, hb⟩ => ?_
  subst he
  exact ⟨_, rfl, law_shut laidOut (by kernel_rfl) (by kernel_rfl) Try.underlying4 rfl hW' rfl hb⟩

theorem bares_holds : Rows.WireBaresSaid :=
  OpenClaim.holds_of_wide 10 Try.f10 rfl rfl rfl rfl rfl rfl rfl ⟨rfl, rfl, rfl, rfl, rfl⟩ rfl rfl rfl rfl rfl (by kernel_rfl) Try.func10 (by kernel_rfl)
    (of_decide_eq_true (by kernel_rfl)) (by unfold Func.isWrapper; rw [if_neg (of_decide_eq_false (by kernel_rfl))]; exact ⟨rfl, rfl⟩)
    (fun os started H enc _ => bares_lifted os started H enc)
end Go.Proofs.Ytjohgfcfnlilmaa
