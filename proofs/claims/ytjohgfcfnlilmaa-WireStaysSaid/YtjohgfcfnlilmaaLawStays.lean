/- Any frame, any place to cut, any bytes: WireStays answers true, and leaves what was there as it was. -/
import Derived.Test.YtjohgfcfnlilmaaRows
import Derived.Test.YtjohgfcfnlilmaaPlain
import Derived.Test.YtjohgfcfnlilmaaPlainTake
import Derived.Test.YtjohgfcfnlilmaaPack
import Derived.Test.YtjohgfcfnlilmaaPick
import Derived.Test.YtjohgfcfnlilmaaShown
import Derived.Test.YtjohgfcfnlilmaaFrame
import Derived.Test.YtjohgfcfnlilmaaBoxes
import Derived.Test.YtjohgfcfnlilmaaNextA
import Derived.Test.YtjohgfcfnlilmaaNextB
import Derived.Test.YtjohgfcfnlilmaaNextC
namespace Go.Proofs.Ytjohgfcfnlilmaa
open Go.ChangeShapes Go.WideShapes Go.ChangeAt Go.RowKit Go.Joins
open Go.Lib (toList_data extract_data)

theorem nil_append (x : ByteArray) : ({ data := #[] } : ByteArray) ++ x = x := by apply bytes_ext; rw [append_list]; rfl

set_option maxHeartbeats 3000000 in
theorem stays_walk (ty at' : Int) (body s t y : ByteArray) (n : Nat) (w : World) (hty : 0 < ty ∧ ty < 256) (hb : body.size ≤ 2000) (hs : s.size ≤ 500) (ht1 : t.size ≤ 2005) (hn : n < t.size)
    (hP : ∀ w, Calls Try.prog 12 #[.agg #[.int .u8 ty, .string body]] w fun e w' => e = .returned (.tuple #[.string t, .int .i64 0]) ∧ Below w.heap.size w w')
    (hK : ∀ w, Calls Try.prog 17 #[.int .i64 at', .int .i64 t.size] w fun e w' => e = .returned (.int .i64 n) ∧ w = w')
    (hE1 : frameE (t.extract 0 n) false = 4) (hE2 : frameE (t.extract 0 n ++ t.extract n t.size) false = 0) (hT2 : ((headT (t.extract 0 n ++ t.extract n t.size) false : Nat) : Int) = ty) (hB2 : frameB (t.extract 0 n ++ t.extract n t.size) false = body)
    (hY : Hid ({ data := #[0, 0, 0, 3] } ++ s = y)) (hy : y.size ≤ 504) (hE3 : frameE y true = 2) :
    Calls Try.prog 8 #[.agg #[.int .u8 ty, .string body], .int .i64 at', .string s] w fun e w' => e = .returned (.bool true) ∧ Below w.heap.size w w' := by
  have HP := Lib.hid hP; have HK := Lib.hid hK; have HE1 := Lib.hid hE1; have HE2 := Lib.hid hE2; have HT2 := Lib.hid hT2; have HB2 := Lib.hid hB2; have HE3 := Lib.hid hE3
  clear hP hK hE1 hE2 hT2 hB2 hE3
  have htz : (ty == 0) = false := by simp; omega
  have hsz : (t.extract 0 n).size = n := by simp; omega
  have HS1 := Lib.hid (show ({ data := #[] } : ByteArray).size + (t.extract 0 n).size ≤ 140737488355328 by rw [hsz]; have : ({ data := #[] } : ByteArray).size = 0 := rfl; omega)
  have hs22 : (t.extract n t.size).size ≤ t.size := by simp
  have HS2 := Lib.hid (show (t.extract 0 n).size + (t.extract n t.size).size ≤ 140737488355328 by omega)
  clear hs22
  have HS3 := Lib.hid (show ({ data := #[] } : ByteArray).size + y.size ≤ 140737488355328 by have : (ByteArray.mk #[]).size = 0 := rfl; omega)
  have HSZ := Lib.hid hsz
  clear hsz
  go_enter Try.func8, Try.ntmps8
  go_wp2_with fail
  refine (shown_true _).mono ?_; rintro e w1 ⟨rfl, hb1⟩
  obtain ⟨hf1, _, hz1⟩ := one_box hb1
  have hB1 : Below w.heap.size w w1 := ((Below.refl _ _).alloc (Nat.le_refl _) _).step hb1 (by simp)
  go_wp2_with fail
  refine (new_any false _).mono ?_; rintro e w2 ⟨rfl, rfl⟩
  go_wp2_with fail
  refine (new_any true _).mono ?_; rintro e w2 ⟨rfl, rfl⟩
  obtain ⟨hRr, hRx⟩ := two_readers w1 false true
  have hf2 := alloc_box (o := .cells #[.slice none 0 0, .bool true, .int .i64 0] 62) (alloc_box (o := .cells #[.slice none 0 0, .bool false, .int .i64 0] 62) hf1 hz1) (by simp; omega)
  have hB2' : Below w.heap.size w ((w1.alloc (.cells #[.slice none 0 0, .bool false, .int .i64 0] 62)).alloc (.cells #[.slice none 0 0, .bool true, .int .i64 0] 62)) := (hB1.alloc (by omega) _).alloc (by simp; omega) _
  have hz2 : w1.heap.size + 1 < ((w1.alloc (.cells #[.slice none 0 0, .bool false, .int .i64 0] 62)).alloc (.cells #[.slice none 0 0, .bool true, .int .i64 0] 62)).heap.size := by simp
  generalize (w1.alloc (.cells #[.slice none 0 0, .bool false, .int .i64 0] 62)).alloc (.cells #[.slice none 0 0, .bool true, .int .i64 0] 62) = w2 at hRr hRx hf2 hB2' hz2 ⊢
  have HRr := Lib.hid hRr; have HRx := Lib.hid hRx
  clear hf1 hb1 hB1 hRr hRx
  go_wp2_with fail
  refine (HP.out _).mono ?_; rintro e w3 ⟨rfl, hb3⟩
  have hf3 := below_box hb3 hf2 (by omega)
  have HRr3 := Lib.hid (HRr.out.grown hb3); have HRx3 := Lib.hid (HRx.out.grown hb3)
  have hB3 := hB2'.step hb3 (by omega)
  have hz3 : w1.heap.size + 1 < w3.heap.size := by have := hb3.size; omega
  clear hf2 hb3 HRr HRx hB2' hz2
  go_wp2_with fail
  refine (HK.out _).mono ?_; rintro e w' ⟨rfl, rfl⟩
  go_wp2_with fail
  refine (feed_any w1.heap.size (.slice none 0 0) { data := #[] } (t.extract 0 n) false _ HRr3.out HS1.out).mono ?_; rintro e w4 ⟨rfl, v1, hR4, hT4, hs4⟩
  rw [nil_append] at hR4
  have hf4 := hT4.box hf3 (by omega) (by omega) (by simp [Value.ownBlock])
  have HRx4 := Lib.hid (HRx3.out.turned hT4 (by omega) (by simp [Value.ownBlock]) (by simp [Value.ownBlock]))
  have HR4 := Lib.hid hR4
  have HV1 := Lib.hid (show ∀ k, v1.ownBlock = some k → w3.heap.size ≤ k ∧ k < w4.heap.size from fun k hk => ⟨(hs4 k hk).elim (fun h => by simp [Value.ownBlock] at h) id, hR4.own.lt k hk⟩)
  have hB4 := hB3.trans (hT4.below (by omega) (by omega) (by simp [Value.ownBlock]))
  have hz4 : w3.heap.size ≤ w4.heap.size := hT4.size
  clear hf3 HRr3 HRx3 hB3 hT4 hs4 hR4
  go_wp2_with fail
  refine (next_more w1.heap.size v1 (t.extract 0 n) false _ HR4.out HE1.out).mono ?_; rintro e w5 ⟨rfl, hb5⟩
  have hf5 := below_box hb5 hf4 (by omega)
  have HR5 := Lib.hid (HR4.out.grown hb5); have HRx5 := Lib.hid (HRx4.out.grown hb5)
  have hB5 := hB4.step hb5 (by omega)
  have hz5 : w4.heap.size ≤ w5.heap.size := hb5.size
  clear hf4 hb5 HR4 HRx4 hB4
  go_wp2_with fail
  have hL := fun W h => left_any w1.heap.size v1 (t.extract 0 n) false 0 W h
  rw [HSZ.out] at hL
  refine (hL _ (by exact HR5.out.alloc _)).mono ?_; rintro e w' ⟨rfl, rfl⟩
  clear hL
  go_wp2_with fail
  refine (feed_any w1.heap.size v1 (t.extract 0 n) (t.extract n t.size) false _ (by exact HR5.out.alloc _) HS2.out).mono ?_; rintro e w6 ⟨rfl, v2, hR6, hT6, hs6⟩
  have hz6 : w5.heap.size < w6.heap.size := by have := hT6.size; simp at this; omega
  have hv1 : ∀ k, k < w3.heap.size ∨ k = w5.heap.size → some k ≠ v1.ownBlock := fun k hk e => by have := HV1.out k e.symm; omega
  have hf6 := hT6.box (alloc_box hf5 (by omega)) (by simp; omega) (by omega) (hv1 _ (by omega))
  have ha6 := hT6.box (k := w5.heap.size) (World.cell?_alloc_new _ _ _) (by simp) (by omega) (hv1 _ (by omega))
  have HRx6 := Lib.hid ((HRx5.out.alloc _).turned hT6 (by omega) (hv1 _ (by omega)) (by simp [Value.ownBlock]))
  have HR6 := Lib.hid hR6
  have hB6 := (hB5.alloc (by omega) _).trans (hT6.below (by simp; omega) (by omega) (fun k hk => by have := HV1.out k hk; omega))
  clear hf5 HR5 HRx5 hB5 hT6 hs6 hR6 hv1 HV1
  go_wp2_with fail
  have hG := next_good w1.heap.size v2 (t.extract 0 n ++ t.extract n t.size) false w6 HR6.out HE2.out
  rw [HT2.out, HB2.out] at hG
  refine hG.mono ?_; rintro e w7 ⟨rfl, v3, hR7, hT7, hs7⟩
  have hz7 : w6.heap.size ≤ w7.heap.size := hT7.size
  have hf7 := hT7.box hf6 (by omega) (by omega) (by simp)
  have ha7 := hT7.box ha6 (by omega) (by omega) (by simp)
  have HRx7 := Lib.hid (HRx6.out.turned hT7 (by omega) (by simp) (by simp [Value.ownBlock]))
  have hB7 := hB6.trans (hT7.below (by omega) (by omega) (by simp))
  clear hf6 ha6 HRx6 HR6 hB6 hT7 hs7 hR7 hG
  go_wp2_with fail
  rw [hY.out]
  refine (feed_any (w1.heap.size + 1) (.slice none 0 0) { data := #[] } y true _ (by exact HRx7.out.alloc _) HS3.out).mono ?_; rintro e w8 ⟨rfl, v4, hR8, hT8, hs8⟩
  rw [nil_append] at hR8
  have hz8 : w7.heap.size < w8.heap.size := by have := hT8.size; simp at this; omega
  have hf8 := hT8.box (alloc_box hf7 (by omega)) (by simp; omega) (by omega) (by simp [Value.ownBlock])
  have ha8 := hT8.box (alloc_box ha7 (by omega)) (by simp; omega) (by omega) (by simp [Value.ownBlock])
  have hb8 := hT8.box (k := w7.heap.size) (World.cell?_alloc_new _ _ _) (by simp) (by omega) (by simp [Value.ownBlock])
  have HR8 := Lib.hid hR8
  have hB8 := (hB7.alloc (by omega) _).trans (hT8.below (by simp; omega) (by omega) (by simp [Value.ownBlock]))
  clear hf7 ha7 HRx7 hB7 hT8 hs8 hR8
  go_wp2_with fail
  refine (next_wrong (w1.heap.size + 1) v4 y true 2 _ HR8.out HE3.out (by decide) (by decide)).mono ?_; rintro e w9 ⟨rfl, v5, hR9, hT9, hs9⟩
  have hz9 : w8.heap.size ≤ w9.heap.size := hT9.size
  have hf9 := hT9.box hf8 (by omega) (by omega) (by simp)
  have ha9 := hT9.box ha8 (by omega) (by omega) (by simp)
  have hb9 := hT9.box hb8 (by omega) (by omega) (by simp)
  have HR9 := Lib.hid hR9
  have hB9 := hB8.trans (hT9.below (by omega) (by omega) (by simp))
  clear hf8 ha8 hb8 HR8 hB8 hT9 hs9 hR9
  go_wp2_with fail
  refine (feed_ended (w1.heap.size + 1) v5 { data := #[] } t true 2 _ (by exact HR9.out.alloc _) (by decide)).mono ?_; rintro e w' ⟨rfl, rfl⟩
  go_wp2_with fail
  refine (next_ended (w1.heap.size + 1) v5 { data := #[] } true 2 _ (by exact HR9.out.alloc _) (by decide)).mono ?_; rintro e w10 ⟨rfl, hb10⟩
  have hz10 : w9.heap.size < w10.heap.size := by have := hb10.size; simp at this; omega
  have hf10 := below_box hb10 (alloc_box hf9 (by omega)) (by simp; omega)
  have ha10 := below_box hb10 (alloc_box ha9 (by omega)) (by simp; omega)
  have hb10' := below_box hb10 (alloc_box hb9 (by omega)) (by simp; omega)
  have HR10 := Lib.hid ((HR9.out.alloc _).grown hb10)
  have hB10 := (hB9.alloc (by omega) _).step hb10 (by simp; omega)
  have hza : w5.heap.size < w10.heap.size := by omega
  have hzb : w7.heap.size < w10.heap.size := by omega
  have hzf : w.heap.size < w10.heap.size := by omega
  clear hf9 ha9 hb9 HR9 hB9 hb10
  go_wp2_with fail
  have hL := fun W h => left_any (w1.heap.size + 1) v5 { data := #[] } true 2 W h
  rw [show (({ data := #[] } : ByteArray).size : Int) = 0 from rfl] at hL
  refine (hL _ (by exact HR10.out.alloc _)).mono ?_; rintro e w' ⟨rfl, rfl⟩
  clear hL
  go_wp2
  go_ret
  exact ⟨rfl, hB10.alloc (by omega) _⟩

theorem stays_early (ty at' : Int) (body s : ByteArray) (w : World) (h : ((2000 : Int) < body.size) ∨ (body.size ≤ 2000 ∧ (500 : Int) < s.size) ∨ (body.size ≤ 2000 ∧ s.size ≤ 500 ∧ ty = 0)) :
    Calls Try.prog 8 #[.agg #[.int .u8 ty, .string body], .int .i64 at', .string s] w fun e w' => e = .returned (.bool true) ∧ Below w.heap.size w w' := by
  rcases h with h | ⟨h1, h⟩ | ⟨h1, h2, rfl⟩
  all_goals
    go_enter Try.func8, Try.ntmps8
    go_wp2_with fail
    refine (shown_true _).mono ?_; rintro e w1 ⟨rfl, hb1⟩
    obtain ⟨hf1, _, hz1⟩ := one_box hb1
    have hB1 : Below w.heap.size w w1 := ((Below.refl _ _).alloc (Nat.le_refl _) _).step hb1 (by simp)
    clear hb1
    go_wp2_with fail
    refine (new_any false _).mono ?_; rintro e w2 ⟨rfl, rfl⟩
    go_wp2_with fail
    refine (new_any true _).mono ?_; rintro e w2 ⟨rfl, rfl⟩
    have hf2 := alloc_box (o := .cells #[.slice none 0 0, .bool true, .int .i64 0] 62) (alloc_box (o := .cells #[.slice none 0 0, .bool false, .int .i64 0] 62) hf1 hz1) (by simp; omega)
    have hB2' : Below w.heap.size w ((w1.alloc (.cells #[.slice none 0 0, .bool false, .int .i64 0] 62)).alloc (.cells #[.slice none 0 0, .bool true, .int .i64 0] 62)) := (hB1.alloc (by omega) _).alloc (by simp; omega) _
    generalize (w1.alloc (.cells #[.slice none 0 0, .bool false, .int .i64 0] 62)).alloc (.cells #[.slice none 0 0, .bool true, .int .i64 0] 62) = w2 at hf2 hB2' ⊢
    clear hf1 hB1
    go_wp2
    go_ret
    exact ⟨rfl, hB2'⟩

theorem stays_ok (ty at' : Int) (body s : ByteArray) (w : World) (h : 0 ≤ ty ∧ ty < 256) (hat : -9223372036854775808 ≤ at' ∧ at' ≤ 9223372036854775807) :
    Calls Try.prog 8 #[.agg #[.int .u8 ty, .string body], .int .i64 at', .string s] w fun e w' => e = .returned (.bool true) ∧ Below w.heap.size w w' := by
  by_cases hb : body.size ≤ 2000
  · by_cases hs : s.size ≤ 500
    · by_cases h0 : ty = 0
      · exact stays_early ty at' body s w (.inr (.inr ⟨hb, hs, h0⟩))
      · have hp := packB_size ty body
        have h1 : (packB ty body).size ≤ 2005 := by rw [hp]; split <;> omega
        have h2 : 0 < (packB ty body).size := by rw [hp]; split <;> omega
        have hk := pk_lt at' _ h2
        have hbare : isBare ty = false := by simp [isBare, h0]
        have hE := cut_pack ty h body _ (by omega) hk
        have hcat : (packB ty body).extract 0 (pk at' (packB ty body).size) ++ (packB ty body).extract (pk at' (packB ty body).size) (packB ty body).size = packB ty body := by
          apply bytes_ext
          rw [append_list, extract_data, extract_data, Nat.sub_zero, List.drop_zero]
          rw [show (List.drop (pk at' (packB ty body).size) (packB ty body).data.toList).take ((packB ty body).size - pk at' (packB ty body).size) = List.drop (pk at' (packB ty body).size) (packB ty body).data.toList from List.take_of_length_le (by rw [List.length_drop, size_list]; omega)]
          exact List.take_append_drop _ _
        have hself : packB ty body = packB ty body ++ { data := #[] } := by apply bytes_ext; rw [append_list]; simp
        obtain ⟨g1, g2, g3, _⟩ := good_pack ty h body { data := #[] } (packB ty body) (by omega) hself
        rw [hbare] at hE g1 g2 g3
        have hy : (({ data := #[0, 0, 0, 3] } : ByteArray) ++ s).size ≤ 504 := by rw [append_size]; have : (ByteArray.mk #[0, 0, 0, 3]).size = 4 := rfl; omega
        have hE3 : frameE (({ data := #[0, 0, 0, 3] } : ByteArray) ++ s) true = 2 := by
          have hz : ¬ (({ data := #[0, 0, 0, 3] } : ByteArray) ++ s).size < 4 := by rw [append_size]; have : (ByteArray.mk #[0, 0, 0, 3]).size = 4 := rfl; omega
          have hn : num (({ data := #[0, 0, 0, 3] } : ByteArray) ++ s) 0 = 3 := by
            unfold num
            rw [append_list, List.drop_zero]
            rfl
          unfold frameE
          rw [show headN true = 4 from rfl, if_neg hz, show 4 - 4 = 0 from rfl, hn, if_pos (Or.inl (by omega))]
        refine stays_walk ty at' body s (packB ty body) _ (pk at' (packB ty body).size) w ⟨by omega, h.2⟩ hb hs h1 hk (fun w => pack_any ty body w (by omega) h) (fun w => pick_any at' _ w h2 (by omega) hat) hE ?_ ?_ ?_ (Lib.hid rfl) hy hE3
        · rw [hcat]; exact g1
        · rw [hcat]; exact g2
        · rw [hcat]; exact g3
    · exact stays_early ty at' body s w (.inr (.inl ⟨hb, by omega⟩))
  · exact stays_early ty at' body s w (.inl (by omega))

set_option maxRecDepth 100000 in
theorem stays_lifted (os : Os) (started : os.Started) (H : Type) (enc : TypeId × Value → H) :
    ReturnsInHanded {} Try.checked os 8 .any (Rows.wireStaysSpec.pre6 enc Try.prog Try.f8 Rows.wireStaysRow.domain false) (Rows.wireStaysSpec.post enc Try.prog Try.f8 false true false false) := by
  refine returnsInHanded_of_change (C := Try.checked) own started (by kernel_rfl) Try.func8
    (ChangeSpec.witness6 (enc := enc) (C := Try.checked) false ⟨#[], #[.agg #[.int .u8 0, .string { data := #[] }], .int .i64 0, .string { data := #[] }], []⟩ 8 (by kernel_rfl) (by kernel_rfl) (by kernel_rfl) (by kernel_rfl)) ?_
  intro W base args ds gs before hval0 hW _ _
  have hval : ∀ (j : Nat) t v, Try.f8.params[j]? = some t → args[j]? = some v → Value.okWide Try.prog W .any base t v := hval0
  have hW' := hW
  obtain ⟨p, q, hA0, hV, rfl, _, _⟩ := hW
  have hA : DataW.TrodAll enc Try.prog W 0 (fun _ => true) true Try.f8.params.toList args.toList ds p := hA0
  rw [Try.params8] at hA hval
  obtain ⟨v0, v1, v2, d0, d1, d2, p0, p1, p2, rfl, rfl, rfl, h0, h1, h2⟩ := trodAll_three hA
  obtain ⟨rfl, rfl⟩ := trodVars_none hV
  obtain ⟨c0, e0, y0, z0, m0, rfl, rfl, rfl, hy0, hz0⟩ := open_agg2 Try.underlying23 (by kernel_rfl) cells_frame (hval 0 23 v0 rfl rfl) h0
  obtain ⟨ty, eq0, rfl, wa0⟩ := DataW.trod_int Try.underlying5 hy0
  obtain ⟨body, er0, rfl, ws0⟩ := DataW.trod_string Try.underlying9 hz0
  simp at eq0 er0; subst eq0 er0
  have h_ty := byte_range wa0
  obtain ⟨at', rfl, rfl, rfl, wf_at'⟩ := open_int Try.underlying3 (hval 1 3 v1 rfl rfl) h1
  have h_at' := int_range wf_at'
  obtain ⟨s, rfl, rfl, rfl, hl_s⟩ := Go.ChangeMaps.open_string Try.underlying9 (hval 2 9 v2 rfl rfl) h2
  refine (stays_ok ty at' body s W h_ty h_at').mono fun e W' ⟨he, hb⟩ => ?_
  subst he
  exact ⟨_, rfl, law_shut laidOut (by kernel_rfl) (by kernel_rfl) Try.underlying4 rfl hW' rfl hb⟩

theorem stays_holds : Rows.WireStaysSaid :=
  OpenClaim.holds_of_wide 8 Try.f8 rfl rfl rfl rfl rfl rfl rfl ⟨rfl, rfl, rfl, rfl, rfl⟩ rfl rfl rfl rfl rfl (by kernel_rfl) Try.func8 (by kernel_rfl)
    (of_decide_eq_true (by kernel_rfl)) (by unfold Func.isWrapper; rw [if_neg (of_decide_eq_false (by kernel_rfl))]; exact ⟨rfl, rfl⟩)
    (fun os started H enc _ => stays_lifted os started H enc)
end Go.Proofs.Ytjohgfcfnlilmaa
