/- Any frame of at most 10000 bytes, any text behind, any place to cut: WireBack answers true, and leaves what was there as it was. -/
import Derived.Test.YtjohgfcfnlilmaaRows
import Derived.Test.YtjohgfcfnlilmaaPlain
import Derived.Test.YtjohgfcfnlilmaaPlainTake
import Derived.Test.YtjohgfcfnlilmaaPack
import Derived.Test.YtjohgfcfnlilmaaPick
import Derived.Test.YtjohgfcfnlilmaaShown
import Derived.Test.YtjohgfcfnlilmaaFrame
import Derived.Test.YtjohgfcfnlilmaaTake
import Derived.Deep.RegionWith
import Derived.Deep.RegionHeld3
namespace Go.Proofs.Ytjohgfcfnlilmaa
open Go.ChangeShapes Go.WideShapes Go.ChangeAt Go.RowKit Go.Joins
open Go.Lib (toList_data)

set_option maxHeartbeats 1000000 in
theorem back_walk (t at' : Int) (body tail s : ByteArray) (k : Nat) (bare : Bool) (w : World) (hbare : (t == 0) = bare) (hs1 : s.size ≤ 10005) (hs0 : 0 < s.size) (hse : (s.toList == ([] : List UInt8)) = false) (hb : body.size ≤ 10000) (hk : k ≤ s.size) (htail : tail.size ≤ 140737488351232)
    (hP : ∀ w, Calls Try.prog 12 #[.agg #[.int .u8 t, .string body]] w fun e w' => e = .returned (.tuple #[.string s, .int .i64 0]) ∧ Below w.heap.size w w')
    (hT : ∀ w, Calls Try.prog 15 #[.string (s ++ tail), .bool bare] w fun e w' => e = .returned (.tuple #[.agg #[.int .u8 t, .string body], .string tail, .int .i64 0]) ∧ Below w.heap.size w w')
    (hK : ∀ w, Calls Try.prog 17 #[.int .i64 at', .int .i64 s.size] w fun e w' => e = .returned (.int .i64 k) ∧ w = w')
    (hC : ∀ w, Calls Try.prog 15 #[.string (s.extract 0 k), .bool bare] w fun e w' => e = .returned (.tuple #[.agg #[.int .u8 0, .string { data := #[] }], .string { data := #[] }, .int .i64 4]) ∧ Below w.heap.size w w') :
    Calls Try.prog 4 #[.agg #[.int .u8 t, .string body], .string tail, .int .i64 at'] w fun e w' => e = .returned (.bool true) ∧ Below w.heap.size w w' := by
  have HP := Lib.hid hP; have HT := Lib.hid hT; have HK := Lib.hid hK; have HC := Lib.hid hC
  clear hP hT hK hC
  go_enter Try.func4, Try.ntmps4
  go_wp2_with fail
  refine (shown_true _).mono ?_; rintro e w1 ⟨rfl, hb1⟩
  obtain ⟨hc1, hf1, hz1⟩ := one_box hb1
  go_wp2_with fail
  refine (HP.out _).mono ?_; rintro e w2 ⟨rfl, hb2⟩
  obtain ⟨hc2, hf2, hz2⟩ := one_box (hb1.step hb2 (by simp; omega))
  clear hc1 hf1
  go_wp2_with fail
  refine (HT.out _).mono ?_; rintro e w3 ⟨rfl, hb3⟩
  obtain ⟨hc3, hf3, hz3⟩ := one_box ((hb1.step hb2 (by simp; omega)).step hb3 (by simp; omega))
  have hB3 : Below w.heap.size w w3 := ((((Below.refl _ _).alloc (Nat.le_refl _) _).step hb1 (by simp)).step hb2 (by omega)).step hb3 (by omega)
  have hq := (hb1.step hb2 (by simp; omega)).step hb3 (by simp; omega)
  clear hc2 hf2 hb1 hb2 hb3 HP HT hse
  go_wp2_with fail
  go_region_with (first | (go_at_call 17; refine (HK.out _).mono ?_; rintro e w' ⟨rfl, rfl⟩) | (go_at_call 15; refine (HC.out _).mono ?_; rintro e w5 ⟨rfl, hb5⟩; first | (have hX := boxes_before hq hb5; obtain ⟨c5, d5, e5, f5, hB5, hz5⟩ := hX) | (have hX := boxes_behind hq hb5; obtain ⟨c5, d5, hB5, hz5⟩ := hX); clear hb5; have hz6 : w.heap.size < w5.heap.size := (by omega)))
  all_goals go_wp2
  all_goals go_ret
  all_goals refine ⟨rfl, ?_⟩
  all_goals first | exact hB5.alloc (by omega) _ | exact (hB5.setCell (by simp; omega) _).setCell (by simp; omega) _

theorem back_ok (t at' : Int) (body tail : ByteArray) (w : World) (h : 0 ≤ t ∧ t < 256) (hat : -9223372036854775808 ≤ at' ∧ at' ≤ 9223372036854775807) (htail : tail.size ≤ 140737488351232) :
    Calls Try.prog 4 #[.agg #[.int .u8 t, .string body], .string tail, .int .i64 at'] w fun e w' => e = .returned (.bool true) ∧ Below w.heap.size w w' := by
  by_cases hb : body.size ≤ 10000
  · have hp := packB_size t body
    have h0 : 0 < (packB t body).size := by rw [hp]; split <;> omega
    have h1 : (packB t body).size ≤ 10005 := by rw [hp]; split <;> omega
    have hk := pk_lt at' _ h0
    obtain ⟨g1, g2, g3, g4⟩ := good_pack t h body tail _ hb rfl
    have hE := cut_pack t h body _ hb hk
    have hbare : (t == 0) = isBare t := by unfold isBare; by_cases e : t = 0 <;> simp [e]
    have hne : ((packB t body).toList == ([] : List UInt8)) = false := by
      rw [toList_data]
      cases hl : (packB t body).data.toList with
      | nil => have := size_list (packB t body); rw [hl] at this; simp at this; omega
      | cons x r => rfl
    refine back_walk t at' body tail (packB t body) (pk at' (packB t body).size) (isBare t) w hbare h1 h0 hne hb (by omega) htail (fun w => pack_any t body w hb h) (fun w => ?_) (fun w => pick_any at' _ w h0 (by omega) hat) (fun w => ?_)
    · have := take_good (packB t body ++ tail) (isBare t) w g1
      rw [g2, g3, g4] at this
      exact this
    · have := take_err ((packB t body).extract 0 (pk at' (packB t body).size)) (isBare t) w (by rw [hE]; decide)
      rw [hE] at this
      exact this
  · have hb' : 10000 < body.size := by omega
    go_enter Try.func4, Try.ntmps4
    go_wp2_with fail
    refine (shown_true _).mono ?_; rintro e w1 ⟨rfl, hb1⟩
    obtain ⟨hc1, hf1, hz1⟩ := one_box hb1
    go_wp2
    go_ret
    exact ⟨rfl, ((Below.refl _ _).alloc (Nat.le_refl _) _).step hb1 (by simp)⟩

set_option maxRecDepth 100000 in
theorem back_lifted (os : Os) (started : os.Started) (H : Type) (enc : TypeId × Value → H) :
    ReturnsInHanded {} Try.checked os 4 .any (Rows.wireBackSpec.pre6 enc Try.prog Try.f4 Rows.wireBackRow.domain false) (Rows.wireBackSpec.post enc Try.prog Try.f4 false true false false) := by
  refine returnsInHanded_of_change_sized (C := Try.checked) own started (by kernel_rfl) Try.func4
    (ChangeSpec.witness6 (enc := enc) (C := Try.checked) false ⟨#[], #[.agg #[.int .u8 0, .string { data := #[] }], .string { data := #[] }, .int .i64 0], []⟩ 8 (by kernel_rfl) (by kernel_rfl) (by kernel_rfl) (by kernel_rfl)) ?_
  intro W base args ds gs before hval0 hW _ hsz0 _
  have hsz : (DataW.weightsEach Try.prog (Try.f4.params.toList ++ Rows.wireBackSpec.plain.varTypes Try.prog) (ds ++ gs)).all (· ≤ reachBytes) = true := hsz0
  clear hsz0
  have hval : ∀ (j : Nat) t v, Try.f4.params[j]? = some t → args[j]? = some v → Value.okWide Try.prog W .any base t v := hval0
  have hW' := hW
  obtain ⟨p, q, hA0, hV, rfl, _, _⟩ := hW
  have hA : DataW.TrodAll enc Try.prog W 0 (fun _ => true) true Try.f4.params.toList args.toList ds p := hA0
  rw [Try.params4] at hA hval hsz
  obtain ⟨v0, v1, v2, d0, d1, d2, p0, p1, p2, rfl, rfl, rfl, h0, h1, h2⟩ := trodAll_three hA
  obtain ⟨rfl, rfl⟩ := trodVars_none hV
  obtain ⟨c0, e0, y0, z0, m0, rfl, rfl, rfl, hy0, hz0⟩ := open_agg2 Try.underlying23 (by kernel_rfl) cells_frame (hval 0 23 v0 rfl rfl) h0
  obtain ⟨t, eq0, rfl, wa0⟩ := DataW.trod_int Try.underlying5 hy0
  obtain ⟨body, er0, rfl, ws0⟩ := DataW.trod_string Try.underlying9 hz0
  simp at eq0 er0; subst eq0 er0
  have h_t := byte_range wa0
  obtain ⟨tail, rfl, rfl, rfl, hl_tail⟩ := Go.ChangeMaps.open_string Try.underlying9 (hval 1 9 v1 rfl rfl) h1
  have hz_tail : tail.size ≤ 140737488351232 := by have := sized_string hsz (j := 1) (t := 9) rfl rfl; rw [size_list] at this; exact this
  obtain ⟨at', rfl, rfl, rfl, wf_at'⟩ := open_int Try.underlying3 (hval 2 3 v2 rfl rfl) h2
  have h_at' := int_range wf_at'
  refine (back_ok t at' body tail W h_t h_at' hz_tail).mono fun e W' ⟨he, hb⟩ => ?_
  subst he
  exact ⟨_, rfl, law_shut laidOut (by kernel_rfl) (by kernel_rfl) Try.underlying4 rfl hW' rfl hb⟩

theorem back_holds : Rows.WireBackSaid :=
  OpenClaim.holds_of_wide 4 Try.f4 rfl rfl rfl rfl rfl rfl rfl ⟨rfl, rfl, rfl, rfl, rfl⟩ rfl rfl rfl rfl rfl (by kernel_rfl) Try.func4 (by kernel_rfl)
    (of_decide_eq_true (by kernel_rfl)) (by unfold Func.isWrapper; rw [if_neg (of_decide_eq_false (by kernel_rfl))]; exact ⟨rfl, rfl⟩)
    (fun os started H enc _ => back_lifted os started H enc)
end Go.Proofs.Ytjohgfcfnlilmaa
