/- Contracts and mathematics: ELay, EEM. -/
import Derived.Test.YtmofnkinclckoaaGreatDoorZ32
import Derived.Test.YtmofnkinclckoaaGreatDoorZ15
import Derived.Test.YtmofnkinclckoaaGreatDoorZ7
import Derived.Test.YtmofnkinclckoaaGreatDoorZ11
namespace Go.Proofs.YtmofnkinclckoaaGreatDoor
open Go.RowKit Go.Lib Go.WideShapes

theorem look_next {K : Bs} {R : List Bs} {c b : UInt8} {r : Bs} {j : Nat} (hb : K[j]? = some b) (hr : R[j]? = some r) : look (K.drop j) (R.drop j) c = if c = b then some r else look (K.drop (j + 1)) (R.drop (j + 1)) c := by
  obtain ⟨h1, e1⟩ := List.getElem?_eq_some_iff.1 hb
  obtain ⟨h2, e2⟩ := List.getElem?_eq_some_iff.1 hr
  rw [List.drop_eq_getElem_cons h1, List.drop_eq_getElem_cons h2, e1, e2, look]

set_option maxRecDepth 100000 in
set_option maxHeartbeats 8000000 in
theorem rlay_client (w : World) (c : UInt8) :
    Calls Tryz.prog 39 #[.bool false, .int .u8 (c.toNat : Nat)] w fun e w' => e = .returned (layV (lay false c)) ∧ Below w.heap.size w w' := by
  have HLK := Lib.hid (show lay false c = look KC RC c from look_client c)
  rw [HLK.out]
  obtain ⟨W0, hW0⟩ : ∃ x, x = (w.alloc (.cells #[.string { data := #[105, 112] }, .string { data := #[115] }, .string { data := #[115] }, .string { data := #[] }, .string { data := #[] }, .string { data := #[] }, .string { data := #[115, 115, 108] }, .string { data := #[115, 115, 99, 118, 99] }, .string { data := #[115, 105] }, .string { data := #[98, 115] }, .string { data := #[98, 115] }] 9)) := ⟨_, rfl⟩
  have HB := Lib.hid (show Below w.heap.size w W0 by rw [hW0]; exact (Below.refl _ _).alloc (Nat.le_refl _) _)
  have HT := Lib.hid (show TextsIn W0 (.slice (some ⟨w.heap.size, 0, none⟩) 11 11) RC by
    refine ⟨_, 11, 11, rfl, rfl, Nat.le_refl _, by omega, .inr ⟨_, 0, rfl, by rw [hW0]; simp, ?_⟩⟩
    intro i t ht
    have hi : i < 11 := (List.getElem?_eq_some_iff.1 ht).1
    rw [hW0]
    simp only [Nat.zero_add]
    rcases (by omega : i = 0 ∨ i = 1 ∨ i = 2 ∨ i = 3 ∨ i = 4 ∨ i = 5 ∨ i = 6 ∨ i = 7 ∨ i = 8 ∨ i = 9 ∨ i = 10) with rfl | rfl | rfl | rfl | rfl | rfl | rfl | rfl | rfl | rfl | rfl <;> (obtain rfl := Option.some.inj ht; simp [go_sem]))
  have HE := Lib.hid hW0
  clear hW0
  go_enter Tryz.func39, Tryz.ntmps39
  go_wp2_with fail
  rw [← HE.out]
  obtain ⟨kb, hkb⟩ : ∃ kb : ByteArray, kb = { data := #[0, 81, 112, 88, 83, 72, 80, 66, 69, 68, 67] } := ⟨_, rfl⟩
  have HKB := Lib.hid (show bytes kb = KC by rw [hkb]; rfl)
  have HKZ := Lib.hid (show kb.size = 11 by rw [hkb]; rfl)
  have hks : kb.size ≤ 15 := by rw [HKZ.out]; decide
  rw [← hkb]
  clear hkb
  go_loopw [8, 8] (fun i _ wx => ∃ j : Nat, j ≤ kb.size ∧ i = .int .i64 j ∧ look KC RC c = look (KC.drop j) (RC.drop j) c ∧ wx = W0) (fun i _ _ => kb.size - (RowKit.intOf i).toNat)
  case atStart => exact ⟨0, Nat.zero_le _, rfl, rfl, rfl⟩
  case round =>
    obtain ⟨j, hj, rfl, hp, hwr⟩ := hrel
    subst hwr
    have HP := Lib.hid hp
    clear hp
    by_cases hlt : j < kb.size
    · have hlt' : (j : Int) < kb.size := by omega
      have hjk : j < kb.size := hlt
      have hltn : (j : Int) < 11 := by have := HKZ.out; omega
      have hK : KC[j]? = some kb[j] := by rw [← HKB.out]; exact List.getElem?_eq_getElem (by rw [blen]; exact hjk)
      have hR : ∃ r, RC[j]? = some r := ⟨_, List.getElem?_eq_getElem (show j < 11 by rw [← HKZ.out]; exact hlt)⟩
      obtain ⟨r, hR⟩ := hR
      obtain ⟨_, _, _, hv, _, _, _, hcc⟩ := HT.out
      obtain ⟨g, off, ha, hg, hcell⟩ := hcc.resolve_left (by intro h; cases h)
      simp only [Value.slice.injEq] at hv
      obtain ⟨hv, rfl, rfl⟩ := hv
      rw [← hv] at ha
      simp only [Option.some.injEq, Addr.mk.injEq, and_true] at ha
      obtain ⟨rfl, rfl⟩ := ha
      have d0 := hcell j r hR
      rw [Nat.zero_add] at d0
      have HN := Lib.hid (look_next (c := c) hK hR)
      clear hK hR hcell hcc hv hg
      by_cases hc : c = kb[j]
      · have HF := Lib.hid (show look KC RC c = some r by rw [HP.out, HN.out, if_pos hc])
        have hcb : ((kb[j].toNat : Int) == (c.toNat : Int)) = true := by rw [hc]; simp
        clear hc
        go_wp2_with fail
        simp [bodyPost, results, Tryz.results39, go_sem, layV]
        exact ⟨⟨by rw [HF.out]; rfl, by rw [HF.out]; rfl⟩, HB.out⟩
      · have HF := Lib.hid (show look KC RC c = look (KC.drop (j + 1)) (RC.drop (j + 1)) c by rw [HP.out, HN.out, if_neg hc])
        have hcb : ((kb[j].toNat : Int) == (c.toNat : Int)) = false := by
          rw [beq_eq_false_iff_ne]; intro e
          exact hc (UInt8.toNat_inj.mp (Int.ofNat.inj e)).symm
        clear hc
        go_wp2_with fail
        go_roundw
        case measure => first | omega | (simp [RowKit.intOf]; omega)
        case rel => exact ⟨j + 1, by omega, by go_num, HF.out, by trivial⟩
    · have hjz : j = kb.size := by omega
      have HF := Lib.hid (show look KC RC c = none by have := HP.out; rw [hjz, HKZ.out] at this; exact this)
      have hge : ¬ (j : Int) < kb.size := by omega
      clear hjz
      clear hlt
      go_wp2_with fail
      simp [bodyPost, results, Tryz.results39, go_sem, layV]
      exact ⟨⟨by rw [HF.out]; rfl, HF.out⟩, HB.out⟩

set_option maxRecDepth 100000 in
set_option maxHeartbeats 8000000 in
theorem rlay_server (w : World) (c : UInt8) :
    Calls Tryz.prog 39 #[.bool true, .int .u8 (c.toNat : Nat)] w fun e w' => e = .returned (layV (lay true c)) ∧ Below w.heap.size w w' := by
  have HLK := Lib.hid (show lay true c = look KS RS' c from look_server c)
  rw [HLK.out]
  obtain ⟨W0, hW0⟩ : ∃ x, x = ((w.alloc (.cells #[.string { data := #[105, 112] }, .string { data := #[115] }, .string { data := #[115] }, .string { data := #[] }, .string { data := #[] }, .string { data := #[] }, .string { data := #[115, 115, 108] }, .string { data := #[115, 115, 99, 118, 99] }, .string { data := #[115, 105] }, .string { data := #[98, 115] }, .string { data := #[98, 115] }] 9)).alloc (.cells #[.string { data := #[105] }, .string { data := #[115, 115] }, .string { data := #[105, 105] }, .string { data := #[98] }, .string { data := #[115] }, .string { data := #[102] }, .string { data := #[102] }, .string { data := #[109] }, .string { data := #[118] }, .string { data := #[] }, .string { data := #[] }, .string { data := #[] }, .string { data := #[] }, .string { data := #[] }, .string { data := #[] }] 9)) := ⟨_, rfl⟩
  have HB := Lib.hid (show Below w.heap.size w W0 by rw [hW0]; exact ((Below.refl _ _).alloc (Nat.le_refl _) _).alloc (by simp) _)
  have HT := Lib.hid (show TextsIn W0 (.slice (some ⟨w.heap.size + 1, 0, none⟩) 15 15) RS' by
    refine ⟨_, 15, 15, rfl, rfl, Nat.le_refl _, by omega, .inr ⟨_, 0, rfl, by rw [hW0]; simp, ?_⟩⟩
    intro i t ht
    have hi : i < 15 := (List.getElem?_eq_some_iff.1 ht).1
    rw [hW0]
    simp only [Nat.zero_add]
    rcases (by omega : i = 0 ∨ i = 1 ∨ i = 2 ∨ i = 3 ∨ i = 4 ∨ i = 5 ∨ i = 6 ∨ i = 7 ∨ i = 8 ∨ i = 9 ∨ i = 10 ∨ i = 11 ∨ i = 12 ∨ i = 13 ∨ i = 14) with rfl | rfl | rfl | rfl | rfl | rfl | rfl | rfl | rfl | rfl | rfl | rfl | rfl | rfl | rfl <;> (obtain rfl := Option.some.inj ht; simp [go_sem]))
  have HE := Lib.hid hW0
  clear hW0
  go_enter Tryz.func39, Tryz.ntmps39
  go_wp2_with fail
  rw [← HE.out]
  obtain ⟨kb, hkb⟩ : ∃ kb : ByteArray, kb = { data := #[82, 83, 75, 90, 67, 69, 78, 84, 68, 73, 49, 50, 51, 110, 115] } := ⟨_, rfl⟩
  have HKB := Lib.hid (show bytes kb = KS by rw [hkb]; rfl)
  have HKZ := Lib.hid (show kb.size = 15 by rw [hkb]; rfl)
  have hks : kb.size ≤ 15 := by rw [HKZ.out]; decide
  rw [← hkb]
  clear hkb
  go_loopw [8, 8] (fun i _ wx => ∃ j : Nat, j ≤ kb.size ∧ i = .int .i64 j ∧ look KS RS' c = look (KS.drop j) (RS'.drop j) c ∧ wx = W0) (fun i _ _ => kb.size - (RowKit.intOf i).toNat)
  case atStart => exact ⟨0, Nat.zero_le _, rfl, rfl, rfl⟩
  case round =>
    obtain ⟨j, hj, rfl, hp, hwr⟩ := hrel
    subst hwr
    have HP := Lib.hid hp
    clear hp
    by_cases hlt : j < kb.size
    · have hlt' : (j : Int) < kb.size := by omega
      have hjk : j < kb.size := hlt
      have hltn : (j : Int) < 15 := by have := HKZ.out; omega
      have hK : KS[j]? = some kb[j] := by rw [← HKB.out]; exact List.getElem?_eq_getElem (by rw [blen]; exact hjk)
      have hR : ∃ r, RS'[j]? = some r := ⟨_, List.getElem?_eq_getElem (show j < 15 by rw [← HKZ.out]; exact hlt)⟩
      obtain ⟨r, hR⟩ := hR
      obtain ⟨_, _, _, hv, _, _, _, hcc⟩ := HT.out
      obtain ⟨g, off, ha, hg, hcell⟩ := hcc.resolve_left (by intro h; cases h)
      simp only [Value.slice.injEq] at hv
      obtain ⟨hv, rfl, rfl⟩ := hv
      rw [← hv] at ha
      simp only [Option.some.injEq, Addr.mk.injEq, and_true] at ha
      obtain ⟨rfl, rfl⟩ := ha
      have d0 := hcell j r hR
      rw [Nat.zero_add] at d0
      have HN := Lib.hid (look_next (c := c) hK hR)
      clear hK hR hcell hcc hv hg
      by_cases hc : c = kb[j]
      · have HF := Lib.hid (show look KS RS' c = some r by rw [HP.out, HN.out, if_pos hc])
        have hcb : ((kb[j].toNat : Int) == (c.toNat : Int)) = true := by rw [hc]; simp
        clear hc
        go_wp2_with fail
        simp [bodyPost, results, Tryz.results39, go_sem, layV]
        exact ⟨⟨by rw [HF.out]; rfl, by rw [HF.out]; rfl⟩, HB.out⟩
      · have HF := Lib.hid (show look KS RS' c = look (KS.drop (j + 1)) (RS'.drop (j + 1)) c by rw [HP.out, HN.out, if_neg hc])
        have hcb : ((kb[j].toNat : Int) == (c.toNat : Int)) = false := by
          rw [beq_eq_false_iff_ne]; intro e
          exact hc (UInt8.toNat_inj.mp (Int.ofNat.inj e)).symm
        clear hc
        go_wp2_with fail
        go_roundw
        case measure => first | omega | (simp [RowKit.intOf]; omega)
        case rel => exact ⟨j + 1, by omega, by go_num, HF.out, by trivial⟩
    · have hjz : j = kb.size := by omega
      have HF := Lib.hid (show look KS RS' c = none by have := HP.out; rw [hjz, HKZ.out] at this; exact this)
      have hge : ¬ (j : Int) < kb.size := by omega
      clear hjz
      clear hlt
      go_wp2_with fail
      simp [bodyPost, results, Tryz.results39, go_sem, layV]
      exact ⟨⟨by rw [HF.out]; rfl, HF.out⟩, HB.out⟩

theorem rlay_any (w : World) (back : Bool) (c : UInt8) :
    Calls Tryz.prog 39 #[.bool back, .int .u8 (c.toNat : Nat)] w fun e w' => e = .returned (layV (lay back c)) ∧ Below w.heap.size w w' := by
  cases back
  · exact rlay_client w c
  · exact rlay_server w c
end Go.Proofs.YtmofnkinclckoaaGreatDoor

namespace Go.Proofs.YtmofnkinclckoaaGreatDoor
open Go.RowKit Go.Lib Go.WideShapes

theorem ag_all : ∀ (l : Bs), (∀ c ∈ l, letter c = true) → ∀ s : XS, s.bad = false → s.T.length ≤ 10000 → Agree (xAll l s) (wAll l s.ws)
  | [], _, s, hb, _ => .inr ⟨hb, rfl⟩
  | c :: l, hl, s, hb, hT => by
    rw [xAll, if_neg (by rw [hb]; decide), wAll]
    rcases ag_field (hl c (List.mem_cons_self ..)) hb hT with ⟨e1, e2⟩ | ⟨e1, e2⟩
    · rw [e2]
      left
      refine ⟨?_, rfl⟩
      cases l with
      | nil => exact e1
      | cons d l => rw [xAll, if_pos e1]; exact e1
    · rw [e2]
      obtain ⟨t, n, b, h1, _⟩ := fwd_field c _ _ e2
      have h1' : s.T = t ++ (xField c s).T := h1
      have hT' : (xField c s).T.length ≤ 10000 := by
        have := congrArg List.length h1'
        rw [List.length_append] at this
        omega
      exact ag_all l (fun d hd => hl d (List.mem_cons_of_mem _ hd)) _ e1 hT'
/-- What the way through ends with, and what is written. -/
def Ends (x : XS) (r : Option Bs) : Prop := (x.bad = true ∧ r = none) ∨ (x.bad = false ∧ r = if x.T = [] ∧ x.N = [] then some x.B else none)
theorem ends_all {l : Bs} (hl : ∀ c ∈ l, letter c = true) {T : List Bs} {N : List Int} (hT : T.length ≤ 10000) : Ends (xAll l ⟨T, N, [], false⟩) ((wAll l ⟨T, N, []⟩).bind wDone) := by
  rcases ag_all l hl ⟨T, N, [], false⟩ rfl hT with ⟨e1, e2⟩ | ⟨e1, e2⟩
  · exact .inl ⟨e1, by rw [show wAll l ⟨T, N, []⟩ = none from e2]; rfl⟩
  · exact .inr ⟨e1, by rw [show wAll l ⟨T, N, []⟩ = some _ from e2]; rfl⟩
theorem all_next {l : Bs} {s x : XS} {j : Nat} {c : UInt8} (h : xAll l s = xAll (l.drop j) x) (hc : l[j]? = some c) (hb : x.bad = false) : xAll l s = xAll (l.drop (j + 1)) (xField c x) := by
  obtain ⟨h1, e1⟩ := List.getElem?_eq_some_iff.1 hc
  rw [h, List.drop_eq_getElem_cons h1, e1, xAll, if_neg (by rw [hb]; decide)]
theorem all_bad {l : Bs} {s x : XS} {j : Nat} (h : xAll l s = xAll (l.drop j) x) (hb : x.bad = true) : xAll l s = x := by
  rw [h]
  cases l.drop j with
  | nil => rfl
  | cons c l => rw [xAll, if_pos hb]
theorem isr_new {w w1 : World} {T : List Bs} {N : List Int} {tv nv : Value} (hT : TextsIn w tv T) (hN : NumsIn w nv N) (hb : Below w.heap.size w w1) :
    IsR w1 (w1.alloc (.cells #[tv, nv, .string { data := #[] }, .bool false] 106)) ⟨T, N, [], false⟩ := by
  refine ⟨tv, nv, (Below.refl _ _).alloc (Nat.le_refl _) _, by rw [World.size_alloc]; exact Nat.lt_succ_self _, ?_, ?_, ?_, ?_, ?_, ?_, ?_, ?_, hT.mono hb, hN.mono hb⟩ <;> simp [go_sem]
end Go.Proofs.YtmofnkinclckoaaGreatDoor
