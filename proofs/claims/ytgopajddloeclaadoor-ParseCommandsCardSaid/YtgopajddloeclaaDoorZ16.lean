/- Contracts and mathematics: PSetS, PSetT, PSetU. -/
import Derived.Test.YtgopajddloeclaaDoorZ15
namespace Go.Proofs.YtgopajddloeclaaDoor
open Go.RowKit Go.Lib Go.WideShapes

set_option maxRecDepth 100000 in
set_option maxHeartbeats 16000000 in
theorem set_sess1 (p : Option Addr) (L2 : List Tok) (N C : Nat) (m : Int) (w : World) (hT : L2.length = N) (hn : N ≤ 100000) (hc : N ≤ C) (hc9 : C ≤ 9223372036854775807) (hA : TokW w p L2) (hx : ∀ q ∈ L2, q.text.length ≤ 2000) (hm : w.cell? ⟨2, 0, none⟩ = some (.int .i64 m)) (h1 : beginsW L2 w_local = false) (h2 : beginsW L2 w_session = true) (h3e : N = 1) :
    Calls Tryd.prog 40 #[.slice p N C] w (CmdOut (setC L2) w) := by
  have e : setC L2 = setC2 115 L2 := by rw [setC_two]; unfold setRow; rw [if_neg (by rw [h1]; decide), if_neg (by rw [hT, h3e]; simp)]
  rw [e]
  obtain ⟨q, hq⟩ : ∃ q, q = setC2 115 L2 := ⟨_, rfl⟩
  rw [← hq]
  have HQQ := Lib.hid hq
  clear e hq
  unfold CmdOut Cmd.val
  have HS := Lib.hid (Res.start w)
  have HM := Lib.hid hm
  have HW0 := Lib.hid (World.block_lt_of_cell? w ⟨2, 0, none⟩ hm)
  have HA := Lib.hid (hA.step HS.out.below)
  have HL0 := Lib.hid hT
  have H1 := Lib.hid (show beginsW L2 (bytes { data := #[108, 111, 99, 97, 108] }) = false from h1)
  have H2 := Lib.hid (show beginsW L2 (bytes { data := #[115, 101, 115, 115, 105, 111, 110] }) = true from h2)
  have HX0 := Lib.hid hx
  have hgo : ∀ g off, p = some ⟨g, off, none⟩ → g < w.heap.size := fun g off hp => by
    rcases hA with h | ⟨g', off', hp', hg', _⟩
    · rw [h] at h2; cases h2
    · rw [hp] at hp'; cases hp'; exact hg'
  obtain ⟨t, r, hr⟩ := begins_some h2
  have HTR := Lib.hid hr
  clear hm hT hx hA h1 h2 hr
  obtain ⟨g, off, rfl, hg⟩ : ∃ g off, p = some ⟨g, off, none⟩ ∧ g < w.heap.size := by
    have := HA.out
    rw [HTR.out] at this
    rcases this with h | ⟨g, off, hp, hg', _⟩
    · cases h
    · exact ⟨g, off, hp, hgo g off hp⟩
  have hn1 : (1 : Int) ≤ N := by rw [← HL0.out, HTR.out, List.length_cons]; omega
  have hn2 : (N : Int) ≤ C := by omega
  have h3 : (N : Int) ≤ 1 := by omega
  clear h3e
  go_enter Tryd.func40, Tryd.ntmps40
  go_wp2_with fail
  refine (begins_below _ _ N C _ _ HL0.out hn HA.out).mono ?_; rintro e w0 ⟨rfl, hb0⟩
  rw [H1.out]
  have HR0 := Lib.hid (HS.out.step hb0)
  have HA0 := Lib.hid (HA.out.step hb0)
  clear hb0
  go_wp2_with fail
  refine (begins_below _ _ N C _ w0 HL0.out hn HA0.out).mono ?_; rintro e w3 ⟨rfl, hb3⟩
  rw [H2.out]
  have HR3 := Lib.hid (HR0.out.step hb3)
  have HA3 := Lib.hid (HA0.out.step hb3)
  clear hb3 HA HA0 HR0 HS
  have HR1 := HR3
  have HA2 := HA3
  clear HR3 HA3
  generalize w3 = w1 at HR1 HA2 ⊢
  go_wp2_with fail
  have HL2 := HL0
  have HX2 := HX0
  have hN : N ≤ 100000 := hn
  have hNC : N ≤ C := hc
  clear HX0 HL0 hn hn2 hc hg HTR H1 H2 hgo
  generalize (some ⟨g, off, none⟩ : Option Addr) = P at HA2 ⊢
  refine (takew_any P L2 N C m w1 HL2.out (by omega) HA2.out HX2.out ((HR1.out.below.cell (p := ⟨2, 0, none⟩) HW0.out).trans HM.out)).mono ?_; rintro e w2 ⟨rfl, hb2⟩
  have HR2 := Lib.hid (HR1.out.step hb2)
  have HA22 := Lib.hid (HA2.out.step hb2)
  clear hb2
  obtain ⟨X, hX⟩ : ∃ X, X = (takeB L2).1 := ⟨_, rfl⟩
  obtain ⟨j, hj⟩ : ∃ j, j = (takeB L2).2 := ⟨_, rfl⟩
  have hjl : j ≤ N := by rw [hj, ← HL2.out]; exact takeB_le L2
  have HSQ := Lib.hid (setC2_cases 115 L2 hX hj)
  rw [← hX, ← hj]
  clear hX hj
  obtain ⟨XT, hXT⟩ : ∃ XT : ByteArray, XT = ⟨X.toArray⟩ := ⟨_, rfl⟩
  rw [← hXT]
  have HXT := Lib.hid hXT
  clear hXT
  by_cases h0 : j = 0
  · have HE := Lib.hid (HQQ.out.trans (HSQ.out.1 (.inl h0)))
    subst h0
    have c0 := HR2.out.c0
    have c1 := HR2.out.c1
    have c2 := HR2.out.c2
    have f0 := HR2.out.f0
    have f1 := HR2.out.f1
    have f2 := HR2.out.f2
    go_wp2_with fail
    obtain ⟨⟨k0, k1, k2⟩, hbb⟩ := HR2.out.put (.int .u8 0) (.string { data := #[] }) (.string { data := #[] })
    simp [bodyPost, results, Tryd.results40, go_sem, k0, k1, k2]
    rw [HE.out]
    exact ⟨by simp [noCmd], hbb⟩
  have h0' : (1 : Int) ≤ j := by omega
  have h0b : ((j : Int) == 0) = false := by simp; omega
  by_cases h1 : j = N
  · have HE := Lib.hid (HQQ.out.trans (HSQ.out.1 (.inr (.inl (h1.trans HL2.out.symm)))))
    subst h1
    have c0 := HR2.out.c0
    have c1 := HR2.out.c1
    have c2 := HR2.out.c2
    have f0 := HR2.out.f0
    have f1 := HR2.out.f1
    have f2 := HR2.out.f2
    go_wp2_with fail
    obtain ⟨⟨k0, k1, k2⟩, hbb⟩ := HR2.out.put (.int .u8 0) (.string { data := #[] }) (.string { data := #[] })
    simp [bodyPost, results, Tryd.results40, go_sem, k0, k1, k2]
    rw [HE.out]
    exact ⟨by simp [noCmd], hbb⟩
  have h1b : ((j : Int) == N) = false := by simp; omega
  have h1' : (j : Int) < N := by omega
  exfalso; omega
end Go.Proofs.YtgopajddloeclaaDoor

namespace Go.Proofs.YtgopajddloeclaaDoor
open Go.RowKit Go.Lib Go.WideShapes

set_option maxRecDepth 100000 in
set_option maxHeartbeats 16000000 in
theorem set_sess2 (p : Option Addr) (L2 : List Tok) (N C : Nat) (m : Int) (w : World) (hT : L2.length = N) (hn : N ≤ 100000) (hc : N ≤ C) (hc9 : C ≤ 9223372036854775807) (hA : TokW w p L2) (hx : ∀ q ∈ L2, q.text.length ≤ 2000) (hm : w.cell? ⟨2, 0, none⟩ = some (.int .i64 m)) (h1 : beginsW L2 w_local = false) (h2 : beginsW L2 w_session = true) (u : Tok) (hu : L2[1]? = some u) (hnu : nm u = false) :
    Calls Tryd.prog 40 #[.slice p N C] w (CmdOut (setC L2) w) := by
  have e : setC L2 = setC2 115 L2 := by rw [setC_two]; unfold setRow; rw [if_neg (by rw [h1]; decide), if_neg (by rw [hu]; simp [hnu])]
  rw [e]
  obtain ⟨q, hq⟩ : ∃ q, q = setC2 115 L2 := ⟨_, rfl⟩
  rw [← hq]
  have HQQ := Lib.hid hq
  clear e hq
  unfold CmdOut Cmd.val
  have HS := Lib.hid (Res.start w)
  have HM := Lib.hid hm
  have HW0 := Lib.hid (World.block_lt_of_cell? w ⟨2, 0, none⟩ hm)
  have HA := Lib.hid (hA.step HS.out.below)
  have HL0 := Lib.hid hT
  have H1 := Lib.hid (show beginsW L2 (bytes { data := #[108, 111, 99, 97, 108] }) = false from h1)
  have H2 := Lib.hid (show beginsW L2 (bytes { data := #[115, 101, 115, 115, 105, 111, 110] }) = true from h2)
  have HX0 := Lib.hid hx
  have hgo : ∀ g off, p = some ⟨g, off, none⟩ → g < w.heap.size := fun g off hp => by
    rcases hA with h | ⟨g', off', hp', hg', _⟩
    · rw [h] at h2; cases h2
    · rw [hp] at hp'; cases hp'; exact hg'
  obtain ⟨t, r, hr⟩ := begins_some h2
  have HTR := Lib.hid hr
  clear hm hT hx hA h1 h2 hr
  obtain ⟨g, off, rfl, hg⟩ : ∃ g off, p = some ⟨g, off, none⟩ ∧ g < w.heap.size := by
    have := HA.out
    rw [HTR.out] at this
    rcases this with h | ⟨g, off, hp, hg', _⟩
    · cases h
    · exact ⟨g, off, hp, hgo g off hp⟩
  have hn1 : (1 : Int) ≤ N := by rw [← HL0.out, HTR.out, List.length_cons]; omega
  have hn2 : (N : Int) ≤ C := by omega
  have h3 : (1 : Int) < N := by
    have := (List.getElem?_eq_some_iff.1 hu).1
    rw [HL0.out] at this; omega
  have HU := Lib.hid hu; have HNU := Lib.hid hnu
  clear hu hnu
  go_enter Tryd.func40, Tryd.ntmps40
  go_wp2_with fail
  refine (begins_below _ _ N C _ _ HL0.out hn HA.out).mono ?_; rintro e w0 ⟨rfl, hb0⟩
  rw [H1.out]
  have HR0 := Lib.hid (HS.out.step hb0)
  have HA0 := Lib.hid (HA.out.step hb0)
  clear hb0
  go_wp2_with fail
  refine (begins_below _ _ N C _ w0 HL0.out hn HA0.out).mono ?_; rintro e w3 ⟨rfl, hb3⟩
  rw [H2.out]
  have HR3 := Lib.hid (HR0.out.step hb3)
  have HA3 := Lib.hid (HA0.out.step hb3)
  clear hb3 HA HA0 HR0 HS
  obtain ⟨_, u0, u1, ulo, uhi, u2, u3⟩ := HA3.out.get HU.out
  simp only [Nat.one_mul] at u0 u1 u2 u3
  go_wp2_with fail
  refine (isname_any u.kind u.text ulo uhi w3).mono ?_; rintro e w6 ⟨rfl, hb6⟩
  rw [show (u.kind == 119 || u.kind == 113) = false from HNU.out]
  have HR6 := Lib.hid (HR3.out.step hb6)
  have HA6 := Lib.hid (HA3.out.step hb6)
  clear hb6 u0 u1 u2 u3 HR3 HA3
  have HR1 := HR6
  have HA2 := HA6
  clear HR6 HA6
  generalize w6 = w1 at HR1 HA2 ⊢
  go_wp2_with fail
  have HL2 := HL0
  have HX2 := HX0
  have hN : N ≤ 100000 := hn
  have hNC : N ≤ C := hc
  clear HX0 HL0 hn hn2 hc hg HTR H1 H2 hgo
  generalize (some ⟨g, off, none⟩ : Option Addr) = P at HA2 ⊢
  refine (takew_any P L2 N C m w1 HL2.out (by omega) HA2.out HX2.out ((HR1.out.below.cell (p := ⟨2, 0, none⟩) HW0.out).trans HM.out)).mono ?_; rintro e w2 ⟨rfl, hb2⟩
  have HR2 := Lib.hid (HR1.out.step hb2)
  have HA22 := Lib.hid (HA2.out.step hb2)
  clear hb2
  obtain ⟨X, hX⟩ : ∃ X, X = (takeB L2).1 := ⟨_, rfl⟩
  obtain ⟨j, hj⟩ : ∃ j, j = (takeB L2).2 := ⟨_, rfl⟩
  have hjl : j ≤ N := by rw [hj, ← HL2.out]; exact takeB_le L2
  have HSQ := Lib.hid (setC2_cases 115 L2 hX hj)
  rw [← hX, ← hj]
  clear hX hj
  obtain ⟨XT, hXT⟩ : ∃ XT : ByteArray, XT = ⟨X.toArray⟩ := ⟨_, rfl⟩
  rw [← hXT]
  have HXT := Lib.hid hXT
  clear hXT
  by_cases h0 : j = 0
  · have HE := Lib.hid (HQQ.out.trans (HSQ.out.1 (.inl h0)))
    subst h0
    have c0 := HR2.out.c0
    have c1 := HR2.out.c1
    have c2 := HR2.out.c2
    have f0 := HR2.out.f0
    have f1 := HR2.out.f1
    have f2 := HR2.out.f2
    go_wp2_with fail
    obtain ⟨⟨k0, k1, k2⟩, hbb⟩ := HR2.out.put (.int .u8 0) (.string { data := #[] }) (.string { data := #[] })
    simp [bodyPost, results, Tryd.results40, go_sem, k0, k1, k2]
    rw [HE.out]
    exact ⟨by simp [noCmd], hbb⟩
  have h0' : (1 : Int) ≤ j := by omega
  have h0b : ((j : Int) == 0) = false := by simp; omega
  by_cases h1 : j = N
  · have HE := Lib.hid (HQQ.out.trans (HSQ.out.1 (.inr (.inl (h1.trans HL2.out.symm)))))
    subst h1
    have c0 := HR2.out.c0
    have c1 := HR2.out.c1
    have c2 := HR2.out.c2
    have f0 := HR2.out.f0
    have f1 := HR2.out.f1
    have f2 := HR2.out.f2
    go_wp2_with fail
    obtain ⟨⟨k0, k1, k2⟩, hbb⟩ := HR2.out.put (.int .u8 0) (.string { data := #[] }) (.string { data := #[] })
    simp [bodyPost, results, Tryd.results40, go_sem, k0, k1, k2]
    rw [HE.out]
    exact ⟨by simp [noCmd], hbb⟩
  have h1b : ((j : Int) == N) = false := by simp; omega
  have h1' : (j : Int) < N := by omega
  obtain ⟨t2, ht2⟩ : ∃ t2, L2[j]? = some t2 := ⟨_, List.getElem?_eq_getElem (by rw [HL2.out]; omega)⟩
  obtain ⟨g2, off2, rfl, hg2⟩ : ∃ g off, P = some ⟨g, off, none⟩ ∧ g < w2.heap.size := by
    rcases HA22.out with h | ⟨g, off, hp, hg, _⟩
    · rw [h] at ht2; cases ht2
    · exact ⟨g, off, hp, hg⟩
  obtain ⟨_, d0, d1, dlo, dhi, d2, d3⟩ := HA22.out.get ht2
  have HT2 := Lib.hid ht2
  clear ht2 h0 h1
  go_wp2_with fail
  refine (assigns_any t2 dlo dhi w2).mono ?_; rintro e w4 ⟨rfl, hb4⟩
  have HR4 := Lib.hid (HR2.out.step hb4)
  have HA4 := Lib.hid (HA22.out.step hb4)
  clear hb4 d0 d1 d2 d3
  cases h2 : assignsB t2 with
  | false =>
    have HE := Lib.hid (HQQ.out.trans (HSQ.out.1 (.inr (.inr (by rw [HT2.out]; exact h2)))))
    clear h2
    have c0 := HR4.out.c0
    have c1 := HR4.out.c1
    have c2 := HR4.out.c2
    have f0 := HR4.out.f0
    have f1 := HR4.out.f1
    have f2 := HR4.out.f2
    go_wp2_with fail
    obtain ⟨⟨k0, k1, k2⟩, hbb⟩ := HR4.out.put (.int .u8 0) (.string { data := #[] }) (.string { data := #[] })
    simp [bodyPost, results, Tryd.results40, go_sem, k0, k1, k2]
    rw [HE.out]
    exact ⟨by simp [noCmd], hbb⟩
  | true =>
    obtain ⟨L3, hL3⟩ : ∃ L3, L3 = L2.drop (j + 1) := ⟨_, rfl⟩
    have HQ := Lib.hid (show j + 1 ≤ N ∧ (aloneW L3 w_default = true → q = (⟨114, X, []⟩, 115 == 115)) ∧ (aloneW L3 w_default = false → q = (⟨115, X, (valueB L3).1⟩, (valueB L3).2)) from
      ⟨by omega, fun h => HQQ.out.trans (HSQ.out.2 (by omega) (by rw [HL2.out]; omega) (by rw [HT2.out]; exact h2) L3 hL3 |>.1 h), fun h => HQQ.out.trans (HSQ.out.2 (by omega) (by rw [HL2.out]; omega) (by rw [HT2.out]; exact h2) L3 hL3 |>.2 h)⟩)
    have HL3 := Lib.hid (show L3.length = N - (j + 1) by rw [hL3, List.length_drop, HL2.out])
    have HX3 := Lib.hid (show ∀ q ∈ L3, q.text.length ≤ 2000 from fun q hq => HX2.out q (List.mem_of_mem_drop (by rw [← hL3]; exact hq)))
    have HAX' := Lib.hid (show TokW w4 (some ⟨g2, off2 + (j + 1) * 4, none⟩) L3 by rw [hL3]; exact HA4.out.drop (j + 1))
    clear h2 hL3
    have hj1 : (j : Int) + 1 ≤ N := by omega
    have hNC' : (N : Int) ≤ C := by omega
    by_cases hcc : C = j + 1
    · subst hcc
      obtain rfl : N = j + 1 := by omega
      have HLK := Lib.hid (show L3.length = 0 from HL3.out.trans (by omega))
      have HAX := Lib.hid (show TokW w4 (some ⟨g2, off2, none⟩) L3 from .inl (List.length_eq_zero_iff.1 HLK.out))
      clear HL3 HAX'
      go_wp2_with fail
      refine (alone_any _ L3 0 _ { data := #[100, 101, 102, 97, 117, 108, 116] } w4 HLK.out (by omega) HAX.out).mono ?_; rintro e w5 ⟨rfl, hb5⟩
      have HR5 := Lib.hid (HR4.out.step hb5)
      have HA5 := Lib.hid (HAX.out.step hb5)
      clear hb5
      cases h5 : aloneW L3 (bytes { data := #[100, 101, 102, 97, 117, 108, 116] }) with
      | true =>
        have HE := Lib.hid (HQ.out.2.1 h5)
        clear h5
        have c0 := HR5.out.c0
        have c1 := HR5.out.c1
        have c2 := HR5.out.c2
        have f0 := HR5.out.f0
        have f1 := HR5.out.f1
        have f2 := HR5.out.f2
        go_wp2_with fail
        obtain ⟨⟨k0, k1, k2⟩, hbb⟩ := HR5.out.put (.int .u8 114) (.string XT) (.string { data := #[] })
        simp [bodyPost, results, Tryd.results40, go_sem, k0, k1, k2]
        rw [HE.out]
        exact ⟨by simp [HXT.out], hbb⟩
      | false =>
        have HE := Lib.hid (HQ.out.2.2 h5)
        clear h5
        go_wp2_with fail
        refine (value_any _ L3 0 _ w5 HLK.out HA5.out HX3.out).mono ?_; rintro e w6 ⟨rfl, hb6⟩
        have HR6 := Lib.hid (HR5.out.step hb6)
        clear hb6
        obtain ⟨VT, hVT⟩ : ∃ VT : ByteArray, VT = ⟨(valueB L3).1.toArray⟩ := ⟨_, rfl⟩
        rw [← hVT]
        have HVT := Lib.hid hVT
        clear hVT
        have c0 := HR6.out.c0
        have c1 := HR6.out.c1
        have c2 := HR6.out.c2
        have f0 := HR6.out.f0
        have f1 := HR6.out.f1
        have f2 := HR6.out.f2
        go_wp2_with fail
        obtain ⟨⟨k0, k1, k2⟩, hbb⟩ := HR6.out.put (.int .u8 115) (.string XT) (.string VT)
        simp [bodyPost, results, Tryd.results40, go_sem, k0, k1, k2]
        rw [HE.out]
        exact ⟨by simp [HXT.out, HVT.out], hbb⟩
    · have hcc' : (j : Int) + 1 < C := by omega
      have HAX := HAX'
      have HLK := HL3
      go_wp2_with fail
      refine (alone_any _ L3 (N - (j + 1)) _ { data := #[100, 101, 102, 97, 117, 108, 116] } w4 HLK.out (by omega) HAX.out).mono ?_; rintro e w5 ⟨rfl, hb5⟩
      have HR5 := Lib.hid (HR4.out.step hb5)
      have HA5 := Lib.hid (HAX.out.step hb5)
      clear hb5
      cases h5 : aloneW L3 (bytes { data := #[100, 101, 102, 97, 117, 108, 116] }) with
      | true =>
        have HE := Lib.hid (HQ.out.2.1 h5)
        clear h5
        have c0 := HR5.out.c0
        have c1 := HR5.out.c1
        have c2 := HR5.out.c2
        have f0 := HR5.out.f0
        have f1 := HR5.out.f1
        have f2 := HR5.out.f2
        go_wp2_with fail
        obtain ⟨⟨k0, k1, k2⟩, hbb⟩ := HR5.out.put (.int .u8 114) (.string XT) (.string { data := #[] })
        simp [bodyPost, results, Tryd.results40, go_sem, k0, k1, k2]
        rw [HE.out]
        exact ⟨by simp [HXT.out], hbb⟩
      | false =>
        have HE := Lib.hid (HQ.out.2.2 h5)
        clear h5
        go_wp2_with fail
        refine (value_any _ L3 (N - (j + 1)) _ w5 HLK.out HA5.out HX3.out).mono ?_; rintro e w6 ⟨rfl, hb6⟩
        have HR6 := Lib.hid (HR5.out.step hb6)
        clear hb6
        obtain ⟨VT, hVT⟩ : ∃ VT : ByteArray, VT = ⟨(valueB L3).1.toArray⟩ := ⟨_, rfl⟩
        rw [← hVT]
        have HVT := Lib.hid hVT
        clear hVT
        have c0 := HR6.out.c0
        have c1 := HR6.out.c1
        have c2 := HR6.out.c2
        have f0 := HR6.out.f0
        have f1 := HR6.out.f1
        have f2 := HR6.out.f2
        go_wp2_with fail
        obtain ⟨⟨k0, k1, k2⟩, hbb⟩ := HR6.out.put (.int .u8 115) (.string XT) (.string VT)
        simp [bodyPost, results, Tryd.results40, go_sem, k0, k1, k2]
        rw [HE.out]
        exact ⟨by simp [HXT.out, HVT.out], hbb⟩
end Go.Proofs.YtgopajddloeclaaDoor

namespace Go.Proofs.YtgopajddloeclaaDoor
open Go.RowKit Go.Lib Go.WideShapes

set_option maxRecDepth 100000 in
set_option maxHeartbeats 16000000 in
theorem set_sess3 (p : Option Addr) (L2 : List Tok) (N C : Nat) (m : Int) (w : World) (hT : L2.length = N) (hn : N ≤ 100000) (hc : N ≤ C) (hc9 : C ≤ 9223372036854775807) (hA : TokW w p L2) (hx : ∀ q ∈ L2, q.text.length ≤ 2000) (hm : w.cell? ⟨2, 0, none⟩ = some (.int .i64 m)) (h1 : beginsW L2 w_local = false) (h2 : beginsW L2 w_session = true) (u : Tok) (hu : L2[1]? = some u) (hnu : nm u = true) (hto : beginsW (L2.drop 1) w_to = true) :
    Calls Tryd.prog 40 #[.slice p N C] w (CmdOut (setC L2) w) := by
  have e : setC L2 = setC2 115 L2 := by rw [setC_two]; unfold setRow; rw [if_neg (by rw [h1]; decide), if_neg (by rw [hto]; simp)]
  rw [e]
  obtain ⟨q, hq⟩ : ∃ q, q = setC2 115 L2 := ⟨_, rfl⟩
  rw [← hq]
  have HQQ := Lib.hid hq
  clear e hq
  unfold CmdOut Cmd.val
  have HS := Lib.hid (Res.start w)
  have HM := Lib.hid hm
  have HW0 := Lib.hid (World.block_lt_of_cell? w ⟨2, 0, none⟩ hm)
  have HA := Lib.hid (hA.step HS.out.below)
  have HL0 := Lib.hid hT
  have H1 := Lib.hid (show beginsW L2 (bytes { data := #[108, 111, 99, 97, 108] }) = false from h1)
  have H2 := Lib.hid (show beginsW L2 (bytes { data := #[115, 101, 115, 115, 105, 111, 110] }) = true from h2)
  have HX0 := Lib.hid hx
  have hgo : ∀ g off, p = some ⟨g, off, none⟩ → g < w.heap.size := fun g off hp => by
    rcases hA with h | ⟨g', off', hp', hg', _⟩
    · rw [h] at h2; cases h2
    · rw [hp] at hp'; cases hp'; exact hg'
  obtain ⟨t, r, hr⟩ := begins_some h2
  have HTR := Lib.hid hr
  clear hm hT hx hA h1 h2 hr
  obtain ⟨g, off, rfl, hg⟩ : ∃ g off, p = some ⟨g, off, none⟩ ∧ g < w.heap.size := by
    have := HA.out
    rw [HTR.out] at this
    rcases this with h | ⟨g, off, hp, hg', _⟩
    · cases h
    · exact ⟨g, off, hp, hgo g off hp⟩
  have hn1 : (1 : Int) ≤ N := by rw [← HL0.out, HTR.out, List.length_cons]; omega
  have hn2 : (N : Int) ≤ C := by omega
  have HTO := Lib.hid (show beginsW (L2.drop 1) (bytes { data := #[116, 111] }) = true from hto)
  clear hto
  have hc2 : (2 : Int) ≤ C := by have := (List.getElem?_eq_some_iff.1 hu).1; rw [HL0.out] at this; omega
  have h3 : (1 : Int) < N := by
    have := (List.getElem?_eq_some_iff.1 hu).1
    rw [HL0.out] at this; omega
  have HU := Lib.hid hu; have HNU := Lib.hid hnu
  clear hu hnu
  go_enter Tryd.func40, Tryd.ntmps40
  go_wp2_with fail
  refine (begins_below _ _ N C _ _ HL0.out hn HA.out).mono ?_; rintro e w0 ⟨rfl, hb0⟩
  rw [H1.out]
  have HR0 := Lib.hid (HS.out.step hb0)
  have HA0 := Lib.hid (HA.out.step hb0)
  clear hb0
  go_wp2_with fail
  refine (begins_below _ _ N C _ w0 HL0.out hn HA0.out).mono ?_; rintro e w3 ⟨rfl, hb3⟩
  rw [H2.out]
  have HR3 := Lib.hid (HR0.out.step hb3)
  have HA3 := Lib.hid (HA0.out.step hb3)
  clear hb3 HA HA0 HR0 HS
  obtain ⟨_, u0, u1, ulo, uhi, u2, u3⟩ := HA3.out.get HU.out
  simp only [Nat.one_mul] at u0 u1 u2 u3
  go_wp2_with fail
  refine (isname_any u.kind u.text ulo uhi w3).mono ?_; rintro e w6 ⟨rfl, hb6⟩
  rw [show (u.kind == 119 || u.kind == 113) = true from HNU.out]
  have HR6 := Lib.hid (HR3.out.step hb6)
  have HA6 := Lib.hid (HA3.out.step hb6)
  clear hb6 u0 u1 u2 u3 HR3 HA3
  have HBH := Lib.hid (behind_row (t := t) (r := r) (by rw [← HTR.out]; exact HA6.out) (by rw [← HTR.out]; exact HL0.out) hc)
  have HTO2 := Lib.hid (show beginsW r (bytes { data := #[116, 111] }) = true from by have := HTO.out; rw [HTR.out] at this; exact this)
  go_wp2_with fail
  refine (begins_below _ r (N - 1) (C - 1) _ w6 HBH.out.2.1 (by omega) HBH.out.1).mono ?_; rintro e w1 ⟨rfl, hb1⟩
  rw [HTO2.out]
  have HR1 := Lib.hid (HR6.out.step hb1)
  have HA2 := Lib.hid (HA6.out.step hb1)
  clear hb1 HR6 HA6 HBH HTO HTO2
  go_wp2_with fail
  have HL2 := HL0
  have HX2 := HX0
  have hN : N ≤ 100000 := hn
  have hNC : N ≤ C := hc
  clear HX0 HL0 hn hn2 hc hg HTR H1 H2 hgo
  generalize (some ⟨g, off, none⟩ : Option Addr) = P at HA2 ⊢
  refine (takew_any P L2 N C m w1 HL2.out (by omega) HA2.out HX2.out ((HR1.out.below.cell (p := ⟨2, 0, none⟩) HW0.out).trans HM.out)).mono ?_; rintro e w2 ⟨rfl, hb2⟩
  have HR2 := Lib.hid (HR1.out.step hb2)
  have HA22 := Lib.hid (HA2.out.step hb2)
  clear hb2
  obtain ⟨X, hX⟩ : ∃ X, X = (takeB L2).1 := ⟨_, rfl⟩
  obtain ⟨j, hj⟩ : ∃ j, j = (takeB L2).2 := ⟨_, rfl⟩
  have hjl : j ≤ N := by rw [hj, ← HL2.out]; exact takeB_le L2
  have HSQ := Lib.hid (setC2_cases 115 L2 hX hj)
  rw [← hX, ← hj]
  clear hX hj
  obtain ⟨XT, hXT⟩ : ∃ XT : ByteArray, XT = ⟨X.toArray⟩ := ⟨_, rfl⟩
  rw [← hXT]
  have HXT := Lib.hid hXT
  clear hXT
  by_cases h0 : j = 0
  · have HE := Lib.hid (HQQ.out.trans (HSQ.out.1 (.inl h0)))
    subst h0
    have c0 := HR2.out.c0
    have c1 := HR2.out.c1
    have c2 := HR2.out.c2
    have f0 := HR2.out.f0
    have f1 := HR2.out.f1
    have f2 := HR2.out.f2
    go_wp2_with fail
    obtain ⟨⟨k0, k1, k2⟩, hbb⟩ := HR2.out.put (.int .u8 0) (.string { data := #[] }) (.string { data := #[] })
    simp [bodyPost, results, Tryd.results40, go_sem, k0, k1, k2]
    rw [HE.out]
    exact ⟨by simp [noCmd], hbb⟩
  have h0' : (1 : Int) ≤ j := by omega
  have h0b : ((j : Int) == 0) = false := by simp; omega
  by_cases h1 : j = N
  · have HE := Lib.hid (HQQ.out.trans (HSQ.out.1 (.inr (.inl (h1.trans HL2.out.symm)))))
    subst h1
    have c0 := HR2.out.c0
    have c1 := HR2.out.c1
    have c2 := HR2.out.c2
    have f0 := HR2.out.f0
    have f1 := HR2.out.f1
    have f2 := HR2.out.f2
    go_wp2_with fail
    obtain ⟨⟨k0, k1, k2⟩, hbb⟩ := HR2.out.put (.int .u8 0) (.string { data := #[] }) (.string { data := #[] })
    simp [bodyPost, results, Tryd.results40, go_sem, k0, k1, k2]
    rw [HE.out]
    exact ⟨by simp [noCmd], hbb⟩
  have h1b : ((j : Int) == N) = false := by simp; omega
  have h1' : (j : Int) < N := by omega
  obtain ⟨t2, ht2⟩ : ∃ t2, L2[j]? = some t2 := ⟨_, List.getElem?_eq_getElem (by rw [HL2.out]; omega)⟩
  obtain ⟨g2, off2, rfl, hg2⟩ : ∃ g off, P = some ⟨g, off, none⟩ ∧ g < w2.heap.size := by
    rcases HA22.out with h | ⟨g, off, hp, hg, _⟩
    · rw [h] at ht2; cases ht2
    · exact ⟨g, off, hp, hg⟩
  obtain ⟨_, d0, d1, dlo, dhi, d2, d3⟩ := HA22.out.get ht2
  have HT2 := Lib.hid ht2
  clear ht2 h0 h1
  go_wp2_with fail
  refine (assigns_any t2 dlo dhi w2).mono ?_; rintro e w4 ⟨rfl, hb4⟩
  have HR4 := Lib.hid (HR2.out.step hb4)
  have HA4 := Lib.hid (HA22.out.step hb4)
  clear hb4 d0 d1 d2 d3
  cases h2 : assignsB t2 with
  | false =>
    have HE := Lib.hid (HQQ.out.trans (HSQ.out.1 (.inr (.inr (by rw [HT2.out]; exact h2)))))
    clear h2
    have c0 := HR4.out.c0
    have c1 := HR4.out.c1
    have c2 := HR4.out.c2
    have f0 := HR4.out.f0
    have f1 := HR4.out.f1
    have f2 := HR4.out.f2
    go_wp2_with fail
    obtain ⟨⟨k0, k1, k2⟩, hbb⟩ := HR4.out.put (.int .u8 0) (.string { data := #[] }) (.string { data := #[] })
    simp [bodyPost, results, Tryd.results40, go_sem, k0, k1, k2]
    rw [HE.out]
    exact ⟨by simp [noCmd], hbb⟩
  | true =>
    obtain ⟨L3, hL3⟩ : ∃ L3, L3 = L2.drop (j + 1) := ⟨_, rfl⟩
    have HQ := Lib.hid (show j + 1 ≤ N ∧ (aloneW L3 w_default = true → q = (⟨114, X, []⟩, 115 == 115)) ∧ (aloneW L3 w_default = false → q = (⟨115, X, (valueB L3).1⟩, (valueB L3).2)) from
      ⟨by omega, fun h => HQQ.out.trans (HSQ.out.2 (by omega) (by rw [HL2.out]; omega) (by rw [HT2.out]; exact h2) L3 hL3 |>.1 h), fun h => HQQ.out.trans (HSQ.out.2 (by omega) (by rw [HL2.out]; omega) (by rw [HT2.out]; exact h2) L3 hL3 |>.2 h)⟩)
    have HL3 := Lib.hid (show L3.length = N - (j + 1) by rw [hL3, List.length_drop, HL2.out])
    have HX3 := Lib.hid (show ∀ q ∈ L3, q.text.length ≤ 2000 from fun q hq => HX2.out q (List.mem_of_mem_drop (by rw [← hL3]; exact hq)))
    have HAX' := Lib.hid (show TokW w4 (some ⟨g2, off2 + (j + 1) * 4, none⟩) L3 by rw [hL3]; exact HA4.out.drop (j + 1))
    clear h2 hL3
    have hj1 : (j : Int) + 1 ≤ N := by omega
    have hNC' : (N : Int) ≤ C := by omega
    by_cases hcc : C = j + 1
    · subst hcc
      obtain rfl : N = j + 1 := by omega
      have HLK := Lib.hid (show L3.length = 0 from HL3.out.trans (by omega))
      have HAX := Lib.hid (show TokW w4 (some ⟨g2, off2, none⟩) L3 from .inl (List.length_eq_zero_iff.1 HLK.out))
      clear HL3 HAX'
      go_wp2_with fail
      refine (alone_any _ L3 0 _ { data := #[100, 101, 102, 97, 117, 108, 116] } w4 HLK.out (by omega) HAX.out).mono ?_; rintro e w5 ⟨rfl, hb5⟩
      have HR5 := Lib.hid (HR4.out.step hb5)
      have HA5 := Lib.hid (HAX.out.step hb5)
      clear hb5
      cases h5 : aloneW L3 (bytes { data := #[100, 101, 102, 97, 117, 108, 116] }) with
      | true =>
        have HE := Lib.hid (HQ.out.2.1 h5)
        clear h5
        have c0 := HR5.out.c0
        have c1 := HR5.out.c1
        have c2 := HR5.out.c2
        have f0 := HR5.out.f0
        have f1 := HR5.out.f1
        have f2 := HR5.out.f2
        go_wp2_with fail
        obtain ⟨⟨k0, k1, k2⟩, hbb⟩ := HR5.out.put (.int .u8 114) (.string XT) (.string { data := #[] })
        simp [bodyPost, results, Tryd.results40, go_sem, k0, k1, k2]
        rw [HE.out]
        exact ⟨by simp [HXT.out], hbb⟩
      | false =>
        have HE := Lib.hid (HQ.out.2.2 h5)
        clear h5
        go_wp2_with fail
        refine (value_any _ L3 0 _ w5 HLK.out HA5.out HX3.out).mono ?_; rintro e w6 ⟨rfl, hb6⟩
        have HR6 := Lib.hid (HR5.out.step hb6)
        clear hb6
        obtain ⟨VT, hVT⟩ : ∃ VT : ByteArray, VT = ⟨(valueB L3).1.toArray⟩ := ⟨_, rfl⟩
        rw [← hVT]
        have HVT := Lib.hid hVT
        clear hVT
        have c0 := HR6.out.c0
        have c1 := HR6.out.c1
        have c2 := HR6.out.c2
        have f0 := HR6.out.f0
        have f1 := HR6.out.f1
        have f2 := HR6.out.f2
        go_wp2_with fail
        obtain ⟨⟨k0, k1, k2⟩, hbb⟩ := HR6.out.put (.int .u8 115) (.string XT) (.string VT)
        simp [bodyPost, results, Tryd.results40, go_sem, k0, k1, k2]
        rw [HE.out]
        exact ⟨by simp [HXT.out, HVT.out], hbb⟩
    · have hcc' : (j : Int) + 1 < C := by omega
      have HAX := HAX'
      have HLK := HL3
      go_wp2_with fail
      refine (alone_any _ L3 (N - (j + 1)) _ { data := #[100, 101, 102, 97, 117, 108, 116] } w4 HLK.out (by omega) HAX.out).mono ?_; rintro e w5 ⟨rfl, hb5⟩
      have HR5 := Lib.hid (HR4.out.step hb5)
      have HA5 := Lib.hid (HAX.out.step hb5)
      clear hb5
      cases h5 : aloneW L3 (bytes { data := #[100, 101, 102, 97, 117, 108, 116] }) with
      | true =>
        have HE := Lib.hid (HQ.out.2.1 h5)
        clear h5
        have c0 := HR5.out.c0
        have c1 := HR5.out.c1
        have c2 := HR5.out.c2
        have f0 := HR5.out.f0
        have f1 := HR5.out.f1
        have f2 := HR5.out.f2
        go_wp2_with fail
        obtain ⟨⟨k0, k1, k2⟩, hbb⟩ := HR5.out.put (.int .u8 114) (.string XT) (.string { data := #[] })
        simp [bodyPost, results, Tryd.results40, go_sem, k0, k1, k2]
        rw [HE.out]
        exact ⟨by simp [HXT.out], hbb⟩
      | false =>
        have HE := Lib.hid (HQ.out.2.2 h5)
        clear h5
        go_wp2_with fail
        refine (value_any _ L3 (N - (j + 1)) _ w5 HLK.out HA5.out HX3.out).mono ?_; rintro e w6 ⟨rfl, hb6⟩
        have HR6 := Lib.hid (HR5.out.step hb6)
        clear hb6
        obtain ⟨VT, hVT⟩ : ∃ VT : ByteArray, VT = ⟨(valueB L3).1.toArray⟩ := ⟨_, rfl⟩
        rw [← hVT]
        have HVT := Lib.hid hVT
        clear hVT
        have c0 := HR6.out.c0
        have c1 := HR6.out.c1
        have c2 := HR6.out.c2
        have f0 := HR6.out.f0
        have f1 := HR6.out.f1
        have f2 := HR6.out.f2
        go_wp2_with fail
        obtain ⟨⟨k0, k1, k2⟩, hbb⟩ := HR6.out.put (.int .u8 115) (.string XT) (.string VT)
        simp [bodyPost, results, Tryd.results40, go_sem, k0, k1, k2]
        rw [HE.out]
        exact ⟨by simp [HXT.out, HVT.out], hbb⟩
end Go.Proofs.YtgopajddloeclaaDoor
