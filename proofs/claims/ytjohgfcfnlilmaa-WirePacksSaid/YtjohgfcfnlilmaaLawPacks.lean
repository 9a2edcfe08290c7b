/- Any frame, any text: WirePacks answers true, and leaves what was there as it was. -/
import Derived.Test.YtjohgfcfnlilmaaRows
import Derived.Test.YtjohgfcfnlilmaaPlain
import Derived.Test.YtjohgfcfnlilmaaPack
import Derived.Test.YtjohgfcfnlilmaaShown
import Derived.Test.YtjohgfcfnlilmaaFrame
import Derived.Test.YtjohgfcfnlilmaaTake
import Derived.Test.YtjohgfcfnlilmaaRef
import Derived.Test.YtjohgfcfnlilmaaRefBoth
import Derived.Deep.RegionWith
import Derived.Deep.RegionHeld3
namespace Go.Proofs.Ytjohgfcfnlilmaa
open Go.ChangeShapes Go.WideShapes Go.ChangeAt Go.RowKit Go.Joins

theorem held_step {w w' w'' : World} {a b : Nat} {x0 x1 y0 y1 : Value} (h : (w'.cell? ⟨a, 0, none⟩ = some x0 ∧ w'.cell? ⟨a, 1, none⟩ = some x1 ∧ w'.cell? ⟨b, 0, none⟩ = some y0 ∧ w'.cell? ⟨b, 1, none⟩ = some y1) ∧ Below w.heap.size w w' ∧ b < w'.heap.size)
    (ha : a < b) (hb : Below w'.heap.size w' w'') : (w''.cell? ⟨a, 0, none⟩ = some x0 ∧ w''.cell? ⟨a, 1, none⟩ = some x1 ∧ w''.cell? ⟨b, 0, none⟩ = some y0 ∧ w''.cell? ⟨b, 1, none⟩ = some y1) ∧ Below w.heap.size w w'' ∧ b < w''.heap.size := by
  obtain ⟨⟨h0, h1, h2, h3⟩, h4, h5⟩ := h
  have hz := hb.size
  have e (n i : Nat) (hn : n < w'.heap.size) : w''.cell? ⟨n, i, none⟩ = w'.cell? ⟨n, i, none⟩ := hb.cell (p := ⟨n, i, none⟩) hn
  exact ⟨⟨(e a 0 (by omega)).trans h0, (e a 1 (by omega)).trans h1, (e b 0 h5).trans h2, (e b 1 h5).trans h3⟩, h4.step hb h4.size, by omega⟩

set_option maxHeartbeats 1000000 in
theorem packs_walk (ty t2 ex E : Int) (body x s r b2 : ByteArray) (bare : Bool) (w : World)
    (hP : ∀ w, Calls Try.prog 12 #[.agg #[.int .u8 ty, .string body]] w fun e w' => e = .returned (.tuple #[.string x, .int .i64 ex]) ∧ Below w.heap.size w w')
    (hR : ∀ w, Calls Try.prog 13 #[.agg #[.int .u8 ty, .string body]] w fun e w' => e = .returned (.tuple #[.string x, .int .i64 ex]) ∧ Below w.heap.size w w')
    (hT : ∀ w, Calls Try.prog 15 #[.string s, .bool bare] w fun e w' => e = .returned (.tuple #[.agg #[.int .u8 t2, .string b2], .string r, .int .i64 E]) ∧ Below w.heap.size w w')
    (hS : ∀ w, Calls Try.prog 16 #[.string s, .bool bare] w fun e w' => e = .returned (.tuple #[.agg #[.int .u8 t2, .string b2], .string r, .int .i64 E]) ∧ Below w.heap.size w w') :
    Calls Try.prog 3 #[.agg #[.int .u8 ty, .string body], .string s, .bool bare] w fun e w' => e = .returned (.bool true) ∧ Below w.heap.size w w' := by
  have HP := Lib.hid hP; have HR := Lib.hid hR; have HT := Lib.hid hT; have HS := Lib.hid hS
  clear hP hR hT hS
  go_enter Try.func3, Try.ntmps3
  go_wp2_with fail
  refine (shown_true _).mono ?_; rintro e w1 ⟨rfl, hb1⟩
  obtain ⟨hc1, hf1, hz1⟩ := one_box hb1
  have hB1 : Below w.heap.size w w1 := ((Below.refl _ _).alloc (Nat.le_refl _) _).step hb1 (by simp)
  go_wp2_with fail
  refine (HP.out _).mono ?_; rintro e w2 ⟨rfl, hb2⟩
  obtain ⟨hc2, hf2, hz2⟩ := one_box (hb1.step hb2 (by simp; omega))
  have hB2 := hB1.step hb2 (by omega)
  clear hc1 hf1
  go_wp2_with fail
  refine (as_any _ _ _).mono ?_; rintro e w3 ⟨rfl, hb3⟩
  have hB3 := hB2.step hb3 (by omega)
  have hz3 : w.heap.size < w3.heap.size := by have := hb3.size; omega
  clear hc2 hf2
  go_wp2_with fail
  refine (HR.out _).mono ?_; rintro e w4 ⟨rfl, hb4⟩
  have hB4 := hB3.step hb4 (by omega)
  have hz4 : w.heap.size < w4.heap.size := by have := hb4.size; omega
  go_wp2_with fail
  refine (HT.out _).mono ?_; rintro e w5 ⟨rfl, hb5⟩
  have hB5 := hB4.step hb5 (by omega)
  have hz5 : w.heap.size < w5.heap.size := by have := hb5.size; omega
  clear hb1 hb2 hb3 hb4 hb5 hB1 hB2 hB3 hB4
  go_wp2_with fail
  refine (HS.out _).mono ?_; rintro e w6 ⟨rfl, hb6⟩
  obtain ⟨hc6, hf6, hz6⟩ := one_box hb6
  go_wp2_with fail
  have hB6 : Below w.heap.size w w6 := (hB5.alloc (by omega) _).step hb6 (by simp; omega)
  clear hb6 hB5 HP HR HT HS
  have S0 : ((w6.alloc (.cells #[.int .u8 t2, .string b2] 29)).cell? ⟨w5.heap.size, 0, none⟩ = some (.int .u8 t2) ∧ (w6.alloc (.cells #[.int .u8 t2, .string b2] 29)).cell? ⟨w5.heap.size, 1, none⟩ = some (.string b2) ∧ (w6.alloc (.cells #[.int .u8 t2, .string b2] 29)).cell? ⟨w6.heap.size, 0, none⟩ = some (.int .u8 t2) ∧ (w6.alloc (.cells #[.int .u8 t2, .string b2] 29)).cell? ⟨w6.heap.size, 1, none⟩ = some (.string b2)) ∧ Below w.heap.size w (w6.alloc (.cells #[.int .u8 t2, .string b2] 29)) ∧ w6.heap.size < (w6.alloc (.cells #[.int .u8 t2, .string b2] 29)).heap.size :=
    ⟨⟨(World.cell?_alloc_past _ _ _ hz6).trans (hc6 0), (World.cell?_alloc_past _ _ _ hz6).trans (hc6 1), World.cell?_alloc_new _ _ _ _, World.cell?_alloc_new _ _ _ _⟩, hB6.alloc (by omega) _, by simp⟩
  generalize w6.alloc (.cells #[.int .u8 t2, .string b2] 29) = w7 at S0 ⊢
  clear hc6 hf6 hz1 hz2 hz3 hz4 hz5
  go_region_held3 (fun w' => (w'.cell? ⟨w5.heap.size, 0, none⟩ = some (.int .u8 t2) ∧ w'.cell? ⟨w5.heap.size, 1, none⟩ = some (.string b2) ∧ w'.cell? ⟨w6.heap.size, 0, none⟩ = some (.int .u8 t2) ∧ w'.cell? ⟨w6.heap.size, 1, none⟩ = some (.string b2)) ∧ Below w.heap.size w w' ∧ w6.heap.size < w'.heap.size) (first | exact ⟨S0.1, S0.2.1.drew, S0.2.2⟩ | exact S1) (first | (go_at_call 14; refine (as_any _ _ _).mono ?_; rintro e w8 ⟨rfl, hb8⟩; have S1 := held_step (w' := w7.drew) ⟨S0.1, S0.2.1.drew, S0.2.2⟩ hz6 hb8))
  go_wp2
  go_ret
  exact ⟨rfl, S1.2.1⟩

theorem packs_ok (ty : Int) (body s : ByteArray) (bare : Bool) (w : World) (h : 0 ≤ ty ∧ ty < 256) :
    Calls Try.prog 3 #[.agg #[.int .u8 ty, .string body], .string s, .bool bare] w fun e w' => e = .returned (.bool true) ∧ Below w.heap.size w w' := by
  by_cases hb : body.size ≤ 10000
  · by_cases hE : frameE s bare = 0
    · exact packs_walk ty _ _ _ body _ s _ _ bare w (fun w => pack_any ty body w hb h) (fun w => rpack_any ty body w hb h) (fun w => take_good s bare w hE) (fun w => rtake_ok s bare w hE)
    · exact packs_walk ty _ _ _ body _ s _ _ bare w (fun w => pack_any ty body w hb h) (fun w => rpack_any ty body w hb h) (fun w => take_err s bare w hE) (fun w => rtake_err s bare w hE)
  · by_cases hE : frameE s bare = 0
    · exact packs_walk ty _ _ _ body _ s _ _ bare w (fun w => pack_long ty body w (by omega)) (fun w => rpack_long ty body w (by omega)) (fun w => take_good s bare w hE) (fun w => rtake_ok s bare w hE)
    · exact packs_walk ty _ _ _ body _ s _ _ bare w (fun w => pack_long ty body w (by omega)) (fun w => rpack_long ty body w (by omega)) (fun w => take_err s bare w hE) (fun w => rtake_err s bare w hE)

set_option maxRecDepth 100000 in
theorem packs_lifted (os : Os) (started : os.Started) (H : Type) (enc : TypeId × Value → H) :
    ReturnsInHanded {} Try.checked os 3 .any (Rows.wirePacksSpec.pre6 enc Try.prog Try.f3 Rows.wirePacksRow.domain false) (Rows.wirePacksSpec.post enc Try.prog Try.f3 false true false false) := by
  refine returnsInHanded_of_change (C := Try.checked) own started (by kernel_rfl) Try.func3
    (ChangeSpec.witness6 (enc := enc) (C := Try.checked) false ⟨#[], #[.agg #[.int .u8 0, .string { data := #[] }], .string { data := #[] }, .bool false], []⟩ 8 (by kernel_rfl) (by kernel_rfl) (by kernel_rfl) (by kernel_rfl)) ?_
  intro W base args ds gs before hval0 hW _ _
  have hval : ∀ (j : Nat) t v, Try.f3.params[j]? = some t → args[j]? = some v → Value.okWide Try.prog W .any base t v := hval0
  have hW' := hW
  obtain ⟨p, q, hA0, hV, rfl, _, _⟩ := hW
  have hA : DataW.TrodAll enc Try.prog W 0 (fun _ => true) true Try.f3.params.toList args.toList ds p := hA0
  rw [Try.params3] at hA hval
  obtain ⟨v0, v1, v2, d0, d1, d2, p0, p1, p2, rfl, rfl, rfl, h0, h1, h2⟩ := trodAll_three hA
  obtain ⟨rfl, rfl⟩ := trodVars_none hV
  obtain ⟨c0, e0, y0, z0, m0, rfl, rfl, rfl, hy0, hz0⟩ := open_agg2 Try.underlying23 (by kernel_rfl) cells_frame (hval 0 23 v0 rfl rfl) h0
  obtain ⟨ty, eq0, rfl, wa0⟩ := DataW.trod_int Try.underlying5 hy0
  obtain ⟨body, er0, rfl, ws0⟩ := DataW.trod_string Try.underlying9 hz0
  simp at eq0 er0; subst eq0 er0
  have h_ty := byte_range wa0
  obtain ⟨s, rfl, rfl, rfl, hl_s⟩ := Go.ChangeMaps.open_string Try.underlying9 (hval 1 9 v1 rfl rfl) h1
  obtain ⟨bare, rfl, rfl, rfl⟩ := open_bool Try.underlying4 (hval 2 4 v2 rfl rfl) h2
  refine (packs_ok ty body s bare W h_ty).mono fun e W' ⟨he, hb⟩ => ?_
  subst he
  exact ⟨_, rfl, law_shut laidOut (by kernel_rfl) (by kernel_rfl) Try.underlying4 rfl hW' rfl hb⟩

theorem packs_holds : Rows.WirePacksSaid :=
  OpenClaim.holds_of_wide 3 Try.f3 rfl rfl rfl rfl rfl rfl rfl ⟨rfl, rfl, rfl, rfl, rfl⟩ rfl rfl rfl rfl rfl (by kernel_rfl) Try.func3 (by kernel_rfl)
    (of_decide_eq_true (by kernel_rfl)) (by unfold Func.isWrapper; rw [if_neg (of_decide_eq_false (by kernel_rfl))]; exact ⟨rfl, rfl⟩)
    (fun os started H enc _ => packs_lifted os started H enc)
end Go.Proofs.Ytjohgfcfnlilmaa
