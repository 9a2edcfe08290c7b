/- Any two frames: WireSizes answers true. -/
import Derived.Test.YtjohgfcfnlilmaaRows
import Derived.Test.YtjohgfcfnlilmaaPlain
import Derived.Test.YtjohgfcfnlilmaaPack
import Derived.Test.YtjohgfcfnlilmaaShown
import Derived.Test.YtjohgfcfnlilmaaFrame
namespace Go.Proofs.Ytjohgfcfnlilmaa
open Go.ChangeShapes Go.WideShapes Go.ChangeAt Go.RowKit Go.Joins

set_option maxHeartbeats 1000000 in
theorem sizes_ll (ta tb : Int) (sa sb : ByteArray) (w : World) (hsa : 10000 < sa.size) (hsb : 10000 < sb.size) :
    Calls Try.prog 7 #[.agg #[.int .u8 ta, .string sa], .agg #[.int .u8 tb, .string sb]] w fun e w' => e = .returned (.bool true) ∧ Below w.heap.size w w' := by
  go_enter Try.func7, Try.ntmps7
  go_wp2_with (go_at_call 11; refine (shown_true _).mono ?_; rintro e w1 ⟨rfl, hb1⟩; obtain ⟨hA1, hB1⟩ := two_boxes hb1)
  refine (pack_long _ _ _ hsa).mono ?_; rintro e w2 ⟨rfl, hb2⟩
  have hz1 : w.heap.size + 1 < w1.heap.size := by have := hb1.size; simp at this; omega
  obtain ⟨hA2, hB2⟩ := two_boxes (hb1.step hb2 (by simp; omega))
  clear hA1 hB1
  go_wp2_with fail
  refine (pack_long _ _ _ hsb).mono ?_; rintro e w3 ⟨rfl, hb3⟩
  have hz2 : w.heap.size + 1 < w2.heap.size := by have := hb2.size; omega
  obtain ⟨hA3, hB3⟩ := two_boxes ((hb1.step hb2 (by simp; omega)).step hb3 (by simp; omega))
  clear hA2 hB2
  go_wp2
  all_goals go_ret
  all_goals exact ⟨rfl, ((((((Below.refl _ _).alloc (Nat.le_refl _) _).alloc (by simp) _).step hb1 (by simp; omega)).step hb2 (by omega)).step hb3 (by omega))⟩

set_option maxHeartbeats 1000000 in
theorem sizes_lo (ta tb : Int) (sa sb : ByteArray) (w : World) (hb : 0 ≤ tb ∧ tb < 256) (hsa : 10000 < sa.size) (hsb : sb.size ≤ 10000) :
    Calls Try.prog 7 #[.agg #[.int .u8 ta, .string sa], .agg #[.int .u8 tb, .string sb]] w fun e w' => e = .returned (.bool true) ∧ Below w.heap.size w w' := by
  go_enter Try.func7, Try.ntmps7
  go_wp2_with (go_at_call 11; refine (shown_true _).mono ?_; rintro e w1 ⟨rfl, hb1⟩; obtain ⟨hA1, hB1⟩ := two_boxes hb1)
  refine (pack_long _ _ _ hsa).mono ?_; rintro e w2 ⟨rfl, hb2⟩
  have hz1 : w.heap.size + 1 < w1.heap.size := by have := hb1.size; simp at this; omega
  obtain ⟨hA2, hB2⟩ := two_boxes (hb1.step hb2 (by simp; omega))
  clear hA1 hB1
  go_wp2_with fail
  refine (pack_any _ _ _ hsb hb).mono ?_; rintro e w3 ⟨rfl, hb3⟩
  have hz2 : w.heap.size + 1 < w2.heap.size := by have := hb2.size; omega
  obtain ⟨hA3, hB3⟩ := two_boxes ((hb1.step hb2 (by simp; omega)).step hb3 (by simp; omega))
  clear hA2 hB2
  go_wp2
  all_goals go_ret
  all_goals exact ⟨rfl, ((((((Below.refl _ _).alloc (Nat.le_refl _) _).alloc (by simp) _).step hb1 (by simp; omega)).step hb2 (by omega)).step hb3 (by omega))⟩

set_option maxHeartbeats 1000000 in
theorem sizes_ol (ta tb : Int) (sa sb : ByteArray) (w : World) (ha : 0 ≤ ta ∧ ta < 256) (hsa : sa.size ≤ 10000) (hsb : 10000 < sb.size) :
    Calls Try.prog 7 #[.agg #[.int .u8 ta, .string sa], .agg #[.int .u8 tb, .string sb]] w fun e w' => e = .returned (.bool true) ∧ Below w.heap.size w w' := by
  go_enter Try.func7, Try.ntmps7
  go_wp2_with (go_at_call 11; refine (shown_true _).mono ?_; rintro e w1 ⟨rfl, hb1⟩; obtain ⟨hA1, hB1⟩ := two_boxes hb1)
  refine (pack_any _ _ _ hsa ha).mono ?_; rintro e w2 ⟨rfl, hb2⟩
  have hz1 : w.heap.size + 1 < w1.heap.size := by have := hb1.size; simp at this; omega
  obtain ⟨hA2, hB2⟩ := two_boxes (hb1.step hb2 (by simp; omega))
  clear hA1 hB1
  go_wp2_with fail
  refine (pack_long _ _ _ hsb).mono ?_; rintro e w3 ⟨rfl, hb3⟩
  have hz2 : w.heap.size + 1 < w2.heap.size := by have := hb2.size; omega
  obtain ⟨hA3, hB3⟩ := two_boxes ((hb1.step hb2 (by simp; omega)).step hb3 (by simp; omega))
  clear hA2 hB2
  go_wp2
  all_goals go_ret
  all_goals exact ⟨rfl, ((((((Below.refl _ _).alloc (Nat.le_refl _) _).alloc (by simp) _).step hb1 (by simp; omega)).step hb2 (by omega)).step hb3 (by omega))⟩

set_option maxHeartbeats 1000000 in
theorem sizes_same (ta : Int) (sa : ByteArray) (w : World) (ha : 0 < ta ∧ ta < 256) (hsa : sa.size ≤ 10000) :
    Calls Try.prog 7 #[.agg #[.int .u8 ta, .string sa], .agg #[.int .u8 ta, .string sa]] w fun e w' => e = .returned (.bool true) ∧ Below w.heap.size w w' := by
  have hsz : ((packB ta sa).size : Int) = (sa.size : Int) + 5 := by rw [packB_size]; rw [if_neg (by omega)]; omega
  have h5 : ((sa.size : Int) + 5 - sa.size == 4) = false := by simp; omega
  have hz : (ta == 0) = false := by simp; omega
  go_enter Try.func7, Try.ntmps7
  go_wp2_with (go_at_call 11; refine (shown_true _).mono ?_; rintro e w1 ⟨rfl, hb1⟩; obtain ⟨hA1, hB1⟩ := two_boxes hb1)
  refine (pack_any _ _ _ hsa (by omega)).mono ?_; rintro e w2 ⟨rfl, hb2⟩
  have hz1 : w.heap.size + 1 < w1.heap.size := by have := hb1.size; simp at this; omega
  obtain ⟨hA2, hB2⟩ := two_boxes (hb1.step hb2 (by simp; omega))
  clear hA1 hB1
  go_wp2_with fail
  refine (pack_any _ _ _ hsa (by omega)).mono ?_; rintro e w3 ⟨rfl, hb3⟩
  have hz2 : w.heap.size + 1 < w2.heap.size := by have := hb2.size; omega
  obtain ⟨hA3, hB3⟩ := two_boxes ((hb1.step hb2 (by simp; omega)).step hb3 (by simp; omega))
  clear hA2 hB2
  go_wp2
  all_goals go_ret
  all_goals exact ⟨rfl, ((((((Below.refl _ _).alloc (Nat.le_refl _) _).alloc (by simp) _).step hb1 (by simp; omega)).step hb2 (by omega)).step hb3 (by omega))⟩

set_option maxHeartbeats 1000000 in
theorem sizes_same0 (sa : ByteArray) (w : World) (hsa : sa.size ≤ 10000) :
    Calls Try.prog 7 #[.agg #[.int .u8 0, .string sa], .agg #[.int .u8 0, .string sa]] w fun e w' => e = .returned (.bool true) ∧ Below w.heap.size w w' := by
  have hsz : ((packB 0 sa).size : Int) = (sa.size : Int) + 4 := by rw [packB_size]; simp
  go_enter Try.func7, Try.ntmps7
  go_wp2_with (go_at_call 11; refine (shown_true _).mono ?_; rintro e w1 ⟨rfl, hb1⟩; obtain ⟨hA1, hB1⟩ := two_boxes hb1)
  refine (pack_any _ _ _ hsa (by omega)).mono ?_; rintro e w2 ⟨rfl, hb2⟩
  have hz1 : w.heap.size + 1 < w1.heap.size := by have := hb1.size; simp at this; omega
  obtain ⟨hA2, hB2⟩ := two_boxes (hb1.step hb2 (by simp; omega))
  clear hA1 hB1
  go_wp2_with fail
  refine (pack_any _ _ _ hsa (by omega)).mono ?_; rintro e w3 ⟨rfl, hb3⟩
  have hz2 : w.heap.size + 1 < w2.heap.size := by have := hb2.size; omega
  obtain ⟨hA3, hB3⟩ := two_boxes ((hb1.step hb2 (by simp; omega)).step hb3 (by simp; omega))
  clear hA2 hB2
  go_wp2
  all_goals go_ret
  all_goals exact ⟨rfl, ((((((Below.refl _ _).alloc (Nat.le_refl _) _).alloc (by simp) _).step hb1 (by simp; omega)).step hb2 (by omega)).step hb3 (by omega))⟩

set_option maxHeartbeats 1000000 in
theorem sizes_body (ta : Int) (sa sb : ByteArray) (w : World) (ha : 0 < ta ∧ ta < 256) (hsa : sa.size ≤ 10000) (hsb : sb.size ≤ 10000) (hne : ¬ sa.toList = sb.toList) (hp : ¬ (packB ta sa).toList = (packB ta sb).toList) :
    Calls Try.prog 7 #[.agg #[.int .u8 ta, .string sa], .agg #[.int .u8 ta, .string sb]] w fun e w' => e = .returned (.bool true) ∧ Below w.heap.size w w' := by
  have hsz : ((packB ta sa).size : Int) = (sa.size : Int) + 5 := by rw [packB_size]; rw [if_neg (by omega)]; omega
  have h5 : ((sa.size : Int) + 5 - sa.size == 4) = false := by simp; omega
  have hz : (ta == 0) = false := by simp; omega
  go_enter Try.func7, Try.ntmps7
  go_wp2_with (go_at_call 11; refine (shown_true _).mono ?_; rintro e w1 ⟨rfl, hb1⟩; obtain ⟨hA1, hB1⟩ := two_boxes hb1)
  refine (pack_any _ _ _ hsa (by omega)).mono ?_; rintro e w2 ⟨rfl, hb2⟩
  have hz1 : w.heap.size + 1 < w1.heap.size := by have := hb1.size; simp at this; omega
  obtain ⟨hA2, hB2⟩ := two_boxes (hb1.step hb2 (by simp; omega))
  clear hA1 hB1
  go_wp2_with fail
  refine (pack_any _ _ _ hsb (by omega)).mono ?_; rintro e w3 ⟨rfl, hb3⟩
  have hz2 : w.heap.size + 1 < w2.heap.size := by have := hb2.size; omega
  obtain ⟨hA3, hB3⟩ := two_boxes ((hb1.step hb2 (by simp; omega)).step hb3 (by simp; omega))
  clear hA2 hB2
  go_wp2
  all_goals go_ret
  all_goals exact ⟨rfl, ((((((Below.refl _ _).alloc (Nat.le_refl _) _).alloc (by simp) _).step hb1 (by simp; omega)).step hb2 (by omega)).step hb3 (by omega))⟩

set_option maxHeartbeats 1000000 in
theorem sizes_body0 (sa sb : ByteArray) (w : World) (hsa : sa.size ≤ 10000) (hsb : sb.size ≤ 10000) (hne : ¬ sa.toList = sb.toList) (hp : ¬ (packB 0 sa).toList = (packB 0 sb).toList) :
    Calls Try.prog 7 #[.agg #[.int .u8 0, .string sa], .agg #[.int .u8 0, .string sb]] w fun e w' => e = .returned (.bool true) ∧ Below w.heap.size w w' := by
  have hsz : ((packB 0 sa).size : Int) = (sa.size : Int) + 4 := by rw [packB_size]; simp
  go_enter Try.func7, Try.ntmps7
  go_wp2_with (go_at_call 11; refine (shown_true _).mono ?_; rintro e w1 ⟨rfl, hb1⟩; obtain ⟨hA1, hB1⟩ := two_boxes hb1)
  refine (pack_any _ _ _ hsa (by omega)).mono ?_; rintro e w2 ⟨rfl, hb2⟩
  have hz1 : w.heap.size + 1 < w1.heap.size := by have := hb1.size; simp at this; omega
  obtain ⟨hA2, hB2⟩ := two_boxes (hb1.step hb2 (by simp; omega))
  clear hA1 hB1
  go_wp2_with fail
  refine (pack_any _ _ _ hsb (by omega)).mono ?_; rintro e w3 ⟨rfl, hb3⟩
  have hz2 : w.heap.size + 1 < w2.heap.size := by have := hb2.size; omega
  obtain ⟨hA3, hB3⟩ := two_boxes ((hb1.step hb2 (by simp; omega)).step hb3 (by simp; omega))
  clear hA2 hB2
  go_wp2
  all_goals go_ret
  all_goals exact ⟨rfl, ((((((Below.refl _ _).alloc (Nat.le_refl _) _).alloc (by simp) _).step hb1 (by simp; omega)).step hb2 (by omega)).step hb3 (by omega))⟩

set_option maxHeartbeats 1000000 in
theorem sizes_type (ta tb : Int) (sa sb : ByteArray) (w : World) (ha : 0 < ta ∧ ta < 256) (hb : 0 < tb ∧ tb < 256) (hsa : sa.size ≤ 10000) (hsb : sb.size ≤ 10000) (hne : ¬ ta = tb) (hp : ¬ (packB ta sa).toList = (packB tb sb).toList) :
    Calls Try.prog 7 #[.agg #[.int .u8 ta, .string sa], .agg #[.int .u8 tb, .string sb]] w fun e w' => e = .returned (.bool true) ∧ Below w.heap.size w w' := by
  have hsz : ((packB ta sa).size : Int) = (sa.size : Int) + 5 := by rw [packB_size]; rw [if_neg (by omega)]; omega
  have h5 : ((sa.size : Int) + 5 - sa.size == 4) = false := by simp; omega
  have hz : (ta == 0) = false := by simp; omega
  have hz' : (tb == 0) = false := by simp; omega
  go_enter Try.func7, Try.ntmps7
  go_wp2_with (go_at_call 11; refine (shown_true _).mono ?_; rintro e w1 ⟨rfl, hb1⟩; obtain ⟨hA1, hB1⟩ := two_boxes hb1)
  refine (pack_any _ _ _ hsa (by omega)).mono ?_; rintro e w2 ⟨rfl, hb2⟩
  have hz1 : w.heap.size + 1 < w1.heap.size := by have := hb1.size; simp at this; omega
  obtain ⟨hA2, hB2⟩ := two_boxes (hb1.step hb2 (by simp; omega))
  clear hA1 hB1
  go_wp2_with fail
  refine (pack_any _ _ _ hsb (by omega)).mono ?_; rintro e w3 ⟨rfl, hb3⟩
  have hz2 : w.heap.size + 1 < w2.heap.size := by have := hb2.size; omega
  obtain ⟨hA3, hB3⟩ := two_boxes ((hb1.step hb2 (by simp; omega)).step hb3 (by simp; omega))
  clear hA2 hB2
  go_wp2
  all_goals go_ret
  all_goals exact ⟨rfl, ((((((Below.refl _ _).alloc (Nat.le_refl _) _).alloc (by simp) _).step hb1 (by simp; omega)).step hb2 (by omega)).step hb3 (by omega))⟩

set_option maxHeartbeats 1000000 in
theorem sizes_0n (tb : Int) (sa sb : ByteArray) (w : World) (hb : 0 < tb ∧ tb < 256) (hsa : sa.size ≤ 10000) (hsb : sb.size ≤ 10000) (hne : ¬ (0 : Int) = tb) :
    Calls Try.prog 7 #[.agg #[.int .u8 0, .string sa], .agg #[.int .u8 tb, .string sb]] w fun e w' => e = .returned (.bool true) ∧ Below w.heap.size w w' := by
  have hsz : ((packB 0 sa).size : Int) = (sa.size : Int) + 4 := by rw [packB_size]; simp
  have hz' : (tb == 0) = false := by simp; omega
  go_enter Try.func7, Try.ntmps7
  go_wp2_with (go_at_call 11; refine (shown_true _).mono ?_; rintro e w1 ⟨rfl, hb1⟩; obtain ⟨hA1, hB1⟩ := two_boxes hb1)
  refine (pack_any _ _ _ hsa (by omega)).mono ?_; rintro e w2 ⟨rfl, hb2⟩
  have hz1 : w.heap.size + 1 < w1.heap.size := by have := hb1.size; simp at this; omega
  obtain ⟨hA2, hB2⟩ := two_boxes (hb1.step hb2 (by simp; omega))
  clear hA1 hB1
  go_wp2_with fail
  refine (pack_any _ _ _ hsb (by omega)).mono ?_; rintro e w3 ⟨rfl, hb3⟩
  have hz2 : w.heap.size + 1 < w2.heap.size := by have := hb2.size; omega
  obtain ⟨hA3, hB3⟩ := two_boxes ((hb1.step hb2 (by simp; omega)).step hb3 (by simp; omega))
  clear hA2 hB2
  go_wp2
  all_goals go_ret
  all_goals exact ⟨rfl, ((((((Below.refl _ _).alloc (Nat.le_refl _) _).alloc (by simp) _).step hb1 (by simp; omega)).step hb2 (by omega)).step hb3 (by omega))⟩

set_option maxHeartbeats 1000000 in
theorem sizes_n0 (ta : Int) (sa sb : ByteArray) (w : World) (ha : 0 < ta ∧ ta < 256) (hsa : sa.size ≤ 10000) (hsb : sb.size ≤ 10000) (hne : ¬ ta = 0) :
    Calls Try.prog 7 #[.agg #[.int .u8 ta, .string sa], .agg #[.int .u8 0, .string sb]] w fun e w' => e = .returned (.bool true) ∧ Below w.heap.size w w' := by
  have hsz : ((packB ta sa).size : Int) = (sa.size : Int) + 5 := by rw [packB_size]; rw [if_neg (by omega)]; omega
  have h5 : ((sa.size : Int) + 5 - sa.size == 4) = false := by simp; omega
  have hz' : (ta == 0) = false := by simp; omega
  go_enter Try.func7, Try.ntmps7
  go_wp2_with (go_at_call 11; refine (shown_true _).mono ?_; rintro e w1 ⟨rfl, hb1⟩; obtain ⟨hA1, hB1⟩ := two_boxes hb1)
  refine (pack_any _ _ _ hsa (by omega)).mono ?_; rintro e w2 ⟨rfl, hb2⟩
  have hz1 : w.heap.size + 1 < w1.heap.size := by have := hb1.size; simp at this; omega
  obtain ⟨hA2, hB2⟩ := two_boxes (hb1.step hb2 (by simp; omega))
  clear hA1 hB1
  go_wp2_with fail
  refine (pack_any _ _ _ hsb (by omega)).mono ?_; rintro e w3 ⟨rfl, hb3⟩
  have hz2 : w.heap.size + 1 < w2.heap.size := by have := hb2.size; omega
  obtain ⟨hA3, hB3⟩ := two_boxes ((hb1.step hb2 (by simp; omega)).step hb3 (by simp; omega))
  clear hA2 hB2
  go_wp2
  all_goals go_ret
  all_goals exact ⟨rfl, ((((((Below.refl _ _).alloc (Nat.le_refl _) _).alloc (by simp) _).step hb1 (by simp; omega)).step hb2 (by omega)).step hb3 (by omega))⟩

theorem sizes_oo (ta tb : Int) (sa sb : ByteArray) (w : World) (ha : 0 ≤ ta ∧ ta < 256) (hb : 0 ≤ tb ∧ tb < 256) (hsa : sa.size ≤ 10000) (hsb : sb.size ≤ 10000) :
    Calls Try.prog 7 #[.agg #[.int .u8 ta, .string sa], .agg #[.int .u8 tb, .string sb]] w fun e w' => e = .returned (.bool true) ∧ Below w.heap.size w w' := by
  have inj (h0 : ta = 0 ↔ tb = 0) (hn : ¬ (ta = tb ∧ sa = sb)) : ¬ (packB ta sa).toList = (packB tb sb).toList := fun e => hn (packB_inj ha hb h0 (toList_inj e))
  by_cases ha0 : ta = 0
  · by_cases hb0 : tb = 0
    · by_cases hs : sa = sb
      · subst ha0 hb0 hs; exact sizes_same0 sa w hsa
      · have hp := inj (by simp [ha0, hb0]) (fun e => hs e.2)
        subst ha0 hb0; exact sizes_body0 sa sb w hsa hsb (fun e => hs (toList_inj e)) hp
    · subst ha0; exact sizes_0n tb sa sb w ⟨by omega, hb.2⟩ hsa hsb (by omega)
  · by_cases hb0 : tb = 0
    · subst hb0; exact sizes_n0 ta sa sb w ⟨by omega, ha.2⟩ hsa hsb ha0
    · by_cases hs : ta = tb
      · by_cases hs' : sa = sb
        · subst hs hs'; exact sizes_same ta sa w ⟨by omega, ha.2⟩ hsa
        · have hp := inj (by simp [ha0, hb0]) (fun e => hs' e.2)
          subst hs; exact sizes_body ta sa sb w ⟨by omega, ha.2⟩ hsa hsb (fun e => hs' (toList_inj e)) hp
      · exact sizes_type ta tb sa sb w ⟨by omega, ha.2⟩ ⟨by omega, hb.2⟩ hsa hsb hs (inj (by simp [ha0, hb0]) (fun e => hs e.1))

theorem sizes_ok (ta tb : Int) (sa sb : ByteArray) (w : World) (ha : 0 ≤ ta ∧ ta < 256) (hb : 0 ≤ tb ∧ tb < 256) :
    Calls Try.prog 7 #[.agg #[.int .u8 ta, .string sa], .agg #[.int .u8 tb, .string sb]] w fun e w' => e = .returned (.bool true) ∧ Below w.heap.size w w' := by
  by_cases h1 : 10000 < sa.size
  · by_cases h2 : 10000 < sb.size
    · exact sizes_ll ta tb sa sb w h1 h2
    · exact sizes_lo ta tb sa sb w hb h1 (by omega)
  · by_cases h2 : 10000 < sb.size
    · exact sizes_ol ta tb sa sb w ha (by omega) h2
    · exact sizes_oo ta tb sa sb w ha hb (by omega) (by omega)

set_option maxRecDepth 100000 in
theorem sizes_lifted (os : Os) (started : os.Started) (H : Type) (enc : TypeId × Value → H) :
    ReturnsInHanded {} Try.checked os 7 .any (Rows.wireSizesSpec.pre6 enc Try.prog Try.f7 Rows.wireSizesRow.domain false) (Rows.wireSizesSpec.post enc Try.prog Try.f7 false true false false) := by
  refine returnsInHanded_of_change (C := Try.checked) own started (by kernel_rfl) Try.func7
    (ChangeSpec.witness6 (enc := enc) (C := Try.checked) false ⟨#[], #[.agg #[.int .u8 0, .string { data := #[] }], .agg #[.int .u8 0, .string { data := #[] }]], []⟩ 8 (by kernel_rfl) (by kernel_rfl) (by kernel_rfl) (by kernel_rfl)) ?_
  intro W base args ds gs before hval0 hW _ _
  have hval : ∀ (j : Nat) t v, Try.f7.params[j]? = some t → args[j]? = some v → Value.okWide Try.prog W .any base t v := hval0
  have hW' := hW
  obtain ⟨p, q, hA0, hV, rfl, _, _⟩ := hW
  have hA : DataW.TrodAll enc Try.prog W 0 (fun _ => true) true Try.f7.params.toList args.toList ds p := hA0
  rw [Try.params7] at hA hval
  obtain ⟨v0, v1, d0, d1, p0, p1, rfl, rfl, rfl, h0, h1⟩ := trodAll_two hA
  obtain ⟨rfl, rfl⟩ := trodVars_none hV
  obtain ⟨c0, e0, y0, z0, m0, rfl, rfl, rfl, hy0, hz0⟩ := open_agg2 Try.underlying23 (by kernel_rfl) cells_frame (hval 0 23 v0 rfl rfl) h0
  obtain ⟨ta, eq0, rfl, wa0⟩ := DataW.trod_int Try.underlying5 hy0
  obtain ⟨sa, er0, rfl, ws0⟩ := DataW.trod_string Try.underlying9 hz0
  simp at eq0 er0; subst eq0 er0
  have h_ta := byte_range wa0
  obtain ⟨c1, e1, y1, z1, m1, rfl, rfl, rfl, hy1, hz1⟩ := open_agg2 Try.underlying23 (by kernel_rfl) cells_frame (hval 1 23 v1 rfl rfl) h1
  obtain ⟨tb, eq1, rfl, wa1⟩ := DataW.trod_int Try.underlying5 hy1
  obtain ⟨sb, er1, rfl, ws1⟩ := DataW.trod_string Try.underlying9 hz1
  simp at eq1 er1; subst eq1 er1
  have h_tb := byte_range wa1
  refine (sizes_ok ta tb sa sb W h_ta h_tb).mono fun e W' ⟨he, hb⟩ => ?_
  subst he
  exact ⟨_, rfl, law_shut laidOut (by kernel_rfl) (by kernel_rfl) Try.underlying4 rfl hW' rfl hb⟩

theorem sizes_holds : Rows.WireSizesSaid :=
  OpenClaim.holds_of_wide 7 Try.f7 rfl rfl rfl rfl rfl rfl rfl ⟨rfl, rfl, rfl, rfl, rfl⟩ rfl rfl rfl rfl rfl (by kernel_rfl) Try.func7 (by kernel_rfl)
    (of_decide_eq_true (by kernel_rfl)) (by unfold Func.isWrapper; rw [if_neg (of_decide_eq_false (by kernel_rfl))]; exact ⟨rfl, rfl⟩)
    (fun os started H enc _ => sizes_lifted os started H enc)
end Go.Proofs.Ytjohgfcfnlilmaa
