/- The document's own layouts. -/
import Derived.Test.YtfdffiphlpeegaaEFall
import Derived.Test.YtfdffiphlpeegaaPlain
namespace Go.Proofs.Ytfdffiphlpeegaa
open Go.RowKit Go.Lib Go.WideShapes

def look : Bs → List Bs → UInt8 → Option Bs
  | k :: ks, r :: rs, c => if c = k then some r else look ks rs c
  | _, _, _ => none
def KC : Bs := [0, 81, 112, 88, 83, 72, 80, 66, 69, 68, 67]
def RC : List Bs := [[105, 112], [115], [115], [], [], [], [115, 115, 108], [115, 115, 99, 118, 99], [115, 105], [98, 115], [98, 115]]
def KS : Bs := [82, 83, 75, 90, 67, 69, 78, 84, 68, 73, 49, 50, 51, 110, 115]
def RS' : List Bs := [[105], [115, 115], [105, 105], [98], [115], [102], [102], [109], [118], [], [], [], [], [], []]
theorem look_client (c : UInt8) : layC c = look KC RC c := rfl
theorem look_server (c : UInt8) : layS c = look KS RS' c := rfl
theorem look_next {K : Bs} {R : List Bs} {c b : UInt8} {r : Bs} {j : Nat} (hb : K[j]? = some b) (hr : R[j]? = some r) : look (K.drop j) (R.drop j) c = if c = b then some r else look (K.drop (j + 1)) (R.drop (j + 1)) c := by
  obtain ⟨h1, e1⟩ := List.getElem?_eq_some_iff.1 hb
  obtain ⟨h2, e2⟩ := List.getElem?_eq_some_iff.1 hr
  rw [List.drop_eq_getElem_cons h1, List.drop_eq_getElem_cons h2, e1, e2, look]

set_option maxRecDepth 100000 in
set_option maxHeartbeats 8000000 in
theorem rlay_client (w : World) (c : UInt8) :
    Calls Try.prog 14 #[.bool false, .int .u8 (c.toNat : Nat)] w fun e w' => e = .returned (layV (lay false c)) ∧ Below w.heap.size w w' := by
  have HLK := Lib.hid (show lay false c = look KC RC c from look_client c)
  rw [HLK.out]
  obtain ⟨W0, hW0⟩ : ∃ x, x = (w.alloc (.cells #[.string { data := #[105, 112] }, .string { data := #[115] }, .string { data := #[115] }, .string { data := #[] }, .string { data := #[] }, .string { data := #[] }, .string { data := #[115, 115, 108] }, .string { data := #[115, 115, 99, 118, 99] }, .string { data := #[115, 105] }, .string { data := #[98, 115] }, .string { data := #[98, 115] }] 9)) := ⟨_, rfl⟩
  have HB := Lib.hid (show Below w.heap.size w W0 by rw [hW0]; exact (Below.refl _ _).alloc (Nat.le_refl _) _)
  have HT := Lib.hid (show TextsIn W0 (.slice (some ⟨w.heap.size, 0, none⟩) 11 11) RC by
    refine ⟨_, 11, 11, rfl, rfl, Nat.le_refl _, by omega, .inr ⟨_, 0, rfl, by rw [hW0]; simp, ?_⟩⟩
    intro i t ht
    have hi : i < 11 := (List.getElem?_eq_some_iff.1 ht).1
    rw [hW0]
    simp only [Nat.zero_add]
    rcases (by omega : i = 0 ∨ i = 1 ∨ i = 2 ∨ i = 3 ∨ i = 4 ∨ i = 5 ∨ i = 6 ∨ i = 7 ∨ i = 8 ∨ i = 9 ∨ i = 10) with rfl | rfl | rfl | rfl | rfl | rfl | rfl | rfl | rfl | rfl | rfl <;> (obtain rfl := Option.some.inj ht; simp [go_sem]))
  have HE := Lib.hid hW0
  clear hW0
  go_enter Try.func14, Try.ntmps14
  go_wp2_with fail
  rw [← HE.out]
  obtain ⟨kb, hkb⟩ : ∃ kb : ByteArray, kb = { data := #[0, 81, 112, 88, 83, 72, 80, 66, 69, 68, 67] } := ⟨_, rfl⟩
  have HKB := Lib.hid (show bytes kb = KC by rw [hkb]; rfl)
  have HKZ := Lib.hid (show kb.size = 11 by rw [hkb]; rfl)
  have hks : kb.size ≤ 15 := by rw [HKZ.out]; decide
  rw [← hkb]
  clear hkb
  go_loopw [8, 8] (fun i _ wx => ∃ j : Nat, j ≤ kb.size ∧ i = .int .i64 j ∧ look KC RC c = look (KC.drop j) (RC.drop j) c ∧ wx = W0) (fun i _ _ => kb.size - (RowKit.intOf i).toNat)
  case atStart => exact ⟨0, Nat.zero_le _, rfl, rfl, rfl⟩
  case round =>
    obtain ⟨j, hj, rfl, hp, hwr⟩ := hrel
    subst hwr
    have HP := Lib.hid hp
    clear hp
    by_cases hlt : j < kb.size
    · have hlt' : (j : Int) < kb.size := by omega
      have hjk : j < kb.size := hlt
      have hltn : (j : Int) < 11 := by have := HKZ.out; omega
      have hK : KC[j]? = some kb[j] := by rw [← HKB.out]; exact List.getElem?_eq_getElem (by rw [blen]; exact hjk)
      have hR : ∃ r, RC[j]? = some r := ⟨_, List.getElem?_eq_getElem (show j < 11 by rw [← HKZ.out]; exact hlt)⟩
      obtain ⟨r, hR⟩ := hR
      obtain ⟨_, _, _, hv, _, _, _, hcc⟩ := HT.out
      obtain ⟨g, off, ha, hg, hcell⟩ := hcc.resolve_left (by intro h; cases h)
      simp only [Value.slice.injEq] at hv
      obtain ⟨hv, rfl, rfl⟩ := hv
      rw [← hv] at ha
      simp only [Option.some.injEq, Addr.mk.injEq, and_true] at ha
      obtain ⟨rfl, rfl⟩ := ha
      have d0 := hcell j r hR
      rw [Nat.zero_add] at d0
      have HN := Lib.hid (look_next (c := c) hK hR)
      clear hK hR hcell hcc hv hg
      by_cases hc : c = kb[j]
      · have HF := Lib.hid (show look KC RC c = some r by rw [HP.out, HN.out, if_pos hc])
        have hcb : ((kb[j].toNat : Int) == (c.toNat : Int)) = true := by rw [hc]; simp
        clear hc
        go_wp2_with fail
        simp [bodyPost, results, Try.results14, go_sem, layV]
        exact ⟨⟨by rw [HF.out]; rfl, by rw [HF.out]; rfl⟩, HB.out⟩
      · have HF := Lib.hid (show look KC RC c = look (KC.drop (j + 1)) (RC.drop (j + 1)) c by rw [HP.out, HN.out, if_neg hc])
        have hcb : ((kb[j].toNat : Int) == (c.toNat : Int)) = false := by
          rw [beq_eq_false_iff_ne]; intro e
          exact hc (UInt8.toNat_inj.mp (Int.ofNat.inj e)).symm
        clear hc
        go_wp2_with fail
        go_roundw
        case measure => first | omega | (simp [RowKit.intOf]; omega)
        case rel => exact ⟨j + 1, by omega, by go_num, HF.out, by trivial⟩
    · have hjz : j = kb.size := by omega
      have HF := Lib.hid (show look KC RC c = none by have := HP.out; rw [hjz, HKZ.out] at this; exact this)
      have hge : ¬ (j : Int) < kb.size := by omega
      clear hjz
      clear hlt
      go_wp2_with fail
      simp [bodyPost, results, Try.results14, go_sem, layV]
      exact ⟨⟨by rw [HF.out]; rfl, HF.out⟩, HB.out⟩

set_option maxRecDepth 100000 in
set_option maxHeartbeats 8000000 in
theorem rlay_server (w : World) (c : UInt8) :
    Calls Try.prog 14 #[.bool true, .int .u8 (c.toNat : Nat)] w fun e w' => e = .returned (layV (lay true c)) ∧ Below w.heap.size w w' := by
  have HLK := Lib.hid (show lay true c = look KS RS' c from look_server c)
  rw [HLK.out]
  obtain ⟨W0, hW0⟩ : ∃ x, x = ((w.alloc (.cells #[.string { data := #[105, 112] }, .string { data := #[115] }, .string { data := #[115] }, .string { data := #[] }, .string { data := #[] }, .string { data := #[] }, .string { data := #[115, 115, 108] }, .string { data := #[115, 115, 99, 118, 99] }, .string { data := #[115, 105] }, .string { data := #[98, 115] }, .string { data := #[98, 115] }] 9)).alloc (.cells #[.string { data := #[105] }, .string { data := #[115, 115] }, .string { data := #[105, 105] }, .string { data := #[98] }, .string { data := #[115] }, .string { data := #[102] }, .string { data := #[102] }, .string { data := #[109] }, .string { data := #[118] }, .string { data := #[] }, .string { data := #[] }, .string { data := #[] }, .string { data := #[] }, .string { data := #[] }, .string { data := #[] }] 9)) := ⟨_, rfl⟩
  have HB := Lib.hid (show Below w.heap.size w W0 by rw [hW0]; exact ((Below.refl _ _).alloc (Nat.le_refl _) _).alloc (by simp) _)
  have HT := Lib.hid (show TextsIn W0 (.slice (some ⟨w.heap.size + 1, 0, none⟩) 15 15) RS' by
    refine ⟨_, 15, 15, rfl, rfl, Nat.le_refl _, by omega, .inr ⟨_, 0, rfl, by rw [hW0]; simp, ?_⟩⟩
    intro i t ht
    have hi : i < 15 := (List.getElem?_eq_some_iff.1 ht).1
    rw [hW0]
    simp only [Nat.zero_add]
    rcases (by omega : i = 0 ∨ i = 1 ∨ i = 2 ∨ i = 3 ∨ i = 4 ∨ i = 5 ∨ i = 6 ∨ i = 7 ∨ i = 8 ∨ i = 9 ∨ i = 10 ∨ i = 11 ∨ i = 12 ∨ i = 13 ∨ i = 14) with rfl | rfl | rfl | rfl | rfl | rfl | rfl | rfl | rfl | rfl | rfl | rfl | rfl | rfl | rfl <;> (obtain rfl := Option.some.inj ht; simp [go_sem]))
  have HE := Lib.hid hW0
  clear hW0
  go_enter Try.func14, Try.ntmps14
  go_wp2_with fail
  rw [← HE.out]
  obtain ⟨kb, hkb⟩ : ∃ kb : ByteArray, kb = { data := #[82, 83, 75, 90, 67, 69, 78, 84, 68, 73, 49, 50, 51, 110, 115] } := ⟨_, rfl⟩
  have HKB := Lib.hid (show bytes kb = KS by rw [hkb]; rfl)
  have HKZ := Lib.hid (show kb.size = 15 by rw [hkb]; rfl)
  have hks : kb.size ≤ 15 := by rw [HKZ.out]; decide
  rw [← hkb]
  clear hkb
  go_loopw [8, 8] (fun i _ wx => ∃ j : Nat, j ≤ kb.size ∧ i = .int .i64 j ∧ look KS RS' c = look (KS.drop j) (RS'.drop j) c ∧ wx = W0) (fun i _ _ => kb.size - (RowKit.intOf i).toNat)
  case atStart => exact ⟨0, Nat.zero_le _, rfl, rfl, rfl⟩
  case round =>
    obtain ⟨j, hj, rfl, hp, hwr⟩ := hrel
    subst hwr
    have HP := Lib.hid hp
    clear hp
    by_cases hlt : j < kb.size
    · have hlt' : (j : Int) < kb.size := by omega
      have hjk : j < kb.size := hlt
      have hltn : (j : Int) < 15 := by have := HKZ.out; omega
      have hK : KS[j]? = some kb[j] := by rw [← HKB.out]; exact List.getElem?_eq_getElem (by rw [blen]; exact hjk)
      have hR : ∃ r, RS'[j]? = some r := ⟨_, List.getElem?_eq_getElem (show j < 15 by rw [← HKZ.out]; exact hlt)⟩
      obtain ⟨r, hR⟩ := hR
      obtain ⟨_, _, _, hv, _, _, _, hcc⟩ := HT.out
      obtain ⟨g, off, ha, hg, hcell⟩ := hcc.resolve_left (by intro h; cases h)
      simp only [Value.slice.injEq] at hv
      obtain ⟨hv, rfl, rfl⟩ := hv
      rw [← hv] at ha
      simp only [Option.some.injEq, Addr.mk.injEq, and_true] at ha
      obtain ⟨rfl, rfl⟩ := ha
      have d0 := hcell j r hR
      rw [Nat.zero_add] at d0
      have HN := Lib.hid (look_next (c := c) hK hR)
      clear hK hR hcell hcc hv hg
      by_cases hc : c = kb[j]
      · have HF := Lib.hid (show look KS RS' c = some r by rw [HP.out, HN.out, if_pos hc])
        have hcb : ((kb[j].toNat : Int) == (c.toNat : Int)) = true := by rw [hc]; simp
        clear hc
        go_wp2_with fail
        simp [bodyPost, results, Try.results14, go_sem, layV]
        exact ⟨⟨by rw [HF.out]; rfl, by rw [HF.out]; rfl⟩, HB.out⟩
      · have HF := Lib.hid (show look KS RS' c = look (KS.drop (j + 1)) (RS'.drop (j + 1)) c by rw [HP.out, HN.out, if_neg hc])
        have hcb : ((kb[j].toNat : Int) == (c.toNat : Int)) = false := by
          rw [beq_eq_false_iff_ne]; intro e
          exact hc (UInt8.toNat_inj.mp (Int.ofNat.inj e)).symm
        clear hc
        go_wp2_with fail
        go_roundw
        case measure => first | omega | (simp [RowKit.intOf]; omega)
        case rel => exact ⟨j + 1, by omega, by go_num, HF.out, by trivial⟩
    · have hjz : j = kb.size := by omega
      have HF := Lib.hid (show look KS RS' c = none by have := HP.out; rw [hjz, HKZ.out] at this; exact this)
      have hge : ¬ (j : Int) < kb.size := by omega
      clear hjz
      clear hlt
      go_wp2_with fail
      simp [bodyPost, results, Try.results14, go_sem, layV]
      exact ⟨⟨by rw [HF.out]; rfl, HF.out⟩, HB.out⟩

theorem rlay_any (w : World) (back : Bool) (c : UInt8) :
    Calls Try.prog 14 #[.bool back, .int .u8 (c.toNat : Nat)] w fun e w' => e = .returned (layV (lay back c)) ∧ Below w.heap.size w w' := by
  cases back
  · exact rlay_client w c
  · exact rlay_server w c
end Go.Proofs.Ytfdffiphlpeegaa
