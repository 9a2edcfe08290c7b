/- The document's named and Take. -/
import Derived.Test.YtalnflfafapicaaDoorNRefGood
import Derived.Test.YtalnflfafapicaaDoorNRefFold
import Derived.Test.YtalnflfafapicaaDoorNTakeW
import Derived.BigQuiet
import Derived.WalkSmall
import Derived.Deep.QuietTactic
namespace Go.Proofs.YtalnflfafapicaaDoor
open Go.RowKit Go.Lib Go.WideShapes

/-- May the token at i be a part of a name? -/
def nmAt (T : List Tok) (i : Nat) : Bool := (T[i]?.map nm).getD false

theorem refnamed_any (p : Option Addr) (T : List Tok) (n c i : Nat) (w : World) (hT : T.length = n) (_hn : n ≤ 100000) (hi : i ≤ 2) (hA : TokW w p T) :
    Calls Tryd.prog 23 #[.slice p n c, .int .i64 i] w fun e w' => e = .returned (.bool (nmAt T i)) ∧ Below w.heap.size w w' := by
  by_cases hlt : i < n
  · obtain ⟨t, ht⟩ : ∃ t, T[i]? = some t := ⟨_, List.getElem?_eq_getElem (by rw [hT]; exact hlt)⟩
    obtain ⟨g, off, rfl, hg⟩ : ∃ g off, p = some ⟨g, off, none⟩ ∧ g < w.heap.size := by
      rcases hA with h | ⟨g, off, hp, hg, _⟩
      · rw [h] at ht; cases ht
      · exact ⟨g, off, hp, hg⟩
    obtain ⟨_, a0, _, lo, hi', _, _⟩ := hA.get ht
    have hv : nmAt T i = (decide (t.kind.toNat = 119) || decide (t.kind.toNat = 113)) := by
      unfold nmAt nm
      rw [ht]
      show (t.kind == 119 || t.kind == 113) = _
      rw [show (t.kind == 119) = decide (t.kind.toNat = 119) by rw [Bool.eq_iff_iff]; simp [← UInt8.toNat_inj], show (t.kind == 113) = decide (t.kind.toNat = 113) by rw [Bool.eq_iff_iff]; simp [← UInt8.toNat_inj]]
    rw [hv]
    have hlt' : (i : Int) < n := by omega
    have hi9 : (i : Int) ≤ 2 := by omega
    clear hA ht hv hT
    generalize t.kind.toNat = kk at a0
    by_cases h1 : kk = 119
    · have hb : ((kk : Int) == 119) = true := by simp; omega
      rw [decide_eq_true h1]
      clear h1
      go_enter Tryd.func23, Tryd.ntmps23
      go_wp2_with fail
      go_ret
      exact ⟨rfl, Below.refl _ _⟩
    · have hb : ((kk : Int) == 119) = false := by simp; omega
      rw [decide_eq_false h1]
      by_cases h2 : kk = 113
      · have hc : ((kk : Int) == 113) = true := by simp; omega
        rw [decide_eq_true h2]
        clear h1 h2
        go_enter Tryd.func23, Tryd.ntmps23
        go_wp2_with fail
        go_ret
        exact ⟨rfl, Below.refl _ _⟩
      · have hc : ((kk : Int) == 113) = false := by simp; omega
        rw [decide_eq_false h2]
        clear h1 h2
        go_enter Tryd.func23, Tryd.ntmps23
        go_wp2_with fail
        go_ret
        exact ⟨rfl, Below.refl _ _⟩
  · have hv : nmAt T i = false := by unfold nmAt; rw [List.getElem?_eq_none (by rw [hT]; omega)]; rfl
    rw [hv]
    have hlt' : (n : Int) ≤ i := by omega
    have hd : decide ((i : Int) < n) = false := by simp; omega
    have hi9 : (i : Int) ≤ 2 := by omega
    clear hA hv hT
    go_enter Tryd.func23, Tryd.ntmps23
    go_wp2_with fail
    go_ret
    exact ⟨rfl, Below.refl _ _⟩

theorem reffold_bs (l : Bs) (w : World) (hs : l.length ≤ 2000) :
    Calls Tryd.prog 24 #[.string ⟨l.toArray⟩] w fun e w' => e = .returned (.string ⟨(foldB l).toArray⟩) ∧ Below w.heap.size w w' := by
  have := reffold_any ⟨l.toArray⟩ w (by rw [str_size]; exact hs)
  rw [show (bytes ⟨l.toArray⟩).map low = foldB l by simp [bytes, foldB]] at this
  exact this

set_option maxHeartbeats 16000000 in
theorem reftake_any (p : Option Addr) (T : List Tok) (n c : Nat) (w : World) (hT : T.length = n) (hn : n ≤ 1000) (hA : TokW w p T) (hx : ∀ q ∈ T, q.text.length ≤ 2000) :
    Calls Tryd.prog 11 #[.slice p n c] w (Took w (takeB T)) := by
  have HG := Lib.hid (fun (S : ByteArray) (W : World) h1 => refgood_any S W h1)
  have HF := Lib.hid (fun (S : Bs) (W : World) h1 => reffold_bs S W h1)
  have HN := Lib.hid (fun (i : Nat) (W : World) h1 h2 => refnamed_any p T n c i W hT (by omega) h1 h2)
  have HA := Lib.hid hA
  cases T with
  | nil =>
    obtain rfl : 0 = n := hT
    clear hx hn hA
    go_enter Tryd.func11, Tryd.ntmps11
    go_wp2_with fail
    refine (HN.out 0 w (by omega) HA.out).mono ?_; rintro e w1 ⟨rfl, hb1⟩
    rw [show nmAt [] 0 = false from rfl]
    have HB1 := Lib.hid hb1
    clear hb1
    go_wp2_with fail
    go_ret2
    exact ⟨rfl, HB1.out⟩
  | cons t r =>
    obtain ⟨g, off, rfl, hg⟩ : ∃ g off, p = some ⟨g, off, none⟩ ∧ g < w.heap.size := by
      rcases hA with h | ⟨g, off, hp, hg, _⟩
      · cases h
      · exact ⟨g, off, hp, hg⟩
    obtain ⟨_, a0, a1, tlo, thi, a2, a3⟩ := hA.get (i := 0) rfl
    simp only [Nat.zero_mul, Nat.add_zero] at a0 a1 a2 a3
    have hn1 : 0 < n := by rw [← hT]; exact Nat.succ_pos _
    have hn1' : (1 : Int) ≤ n := by omega
    have HTX := Lib.hid hx
    have HTL := Lib.hid hT
    clear hA hx hT a0 a2 a3
    cases hnt : nm t with
    | false =>
      rw [takeB_no hnt]
      have HNT := Lib.hid hnt
      clear hnt
      go_enter Tryd.func11, Tryd.ntmps11
      go_wp2_with fail
      refine (HN.out 0 w (by omega) HA.out).mono ?_; rintro e w1 ⟨rfl, hb1⟩
      rw [show nmAt (t :: r) 0 = false from HNT.out]
      have HB1 := Lib.hid hb1
      clear hb1
      go_wp2_with fail
      go_ret2
      exact ⟨rfl, HB1.out⟩
    | true =>
      have HNT := Lib.hid hnt
      clear hnt
      have htx : t.text.length ≤ 2000 := HTX.out t (List.mem_cons_self ..)
      go_enter Tryd.func11, Tryd.ntmps11
      go_wp2_with fail
      refine (HN.out 0 w (by omega) HA.out).mono ?_; rintro e w1 ⟨rfl, hb1⟩
      rw [show nmAt (t :: r) 0 = true from HNT.out]
      have HB1 := Lib.hid hb1
      have a1 := (hb1.cell (p := ⟨g, off + 1, none⟩) hg).trans a1
      clear hb1
      go_wp2_with fail
      refine (HF.out t.text w1 htx).mono ?_; rintro e w2 ⟨rfl, hb2⟩
      have HB2 := Lib.hid (HB1.out.step hb2 HB1.out.size)
      clear hb2 HB1
      obtain ⟨X, hX⟩ : ∃ X : ByteArray, X = ⟨(foldB t.text).toArray⟩ := ⟨_, rfl⟩
      rw [← hX]
      have hXs : X.size ≤ 2000 := by rw [hX, str_size, foldB_length]; exact htx
      have HXE := Lib.hid hX
      clear htx hX
      rcases r with _ | ⟨u, r⟩
      · obtain rfl : 1 = n := HTL.out
        have HTK := Lib.hid (show takes (t :: []) = (foldB t.text, 1) from rfl)
        have HXX := Lib.hid HXE.out; have HBX := Lib.hid (show bytes X = foldB t.text by rw [HXE.out])
        clear HXE
        go_wp2_with fail
        refine (HG.out _ w2 (by omega)).mono ?_; rintro e w9 ⟨rfl, rfl⟩
        have HRR := Lib.hid (takeB_yes HNT.out HTK.out)
        rw [HBX.out]
        cases hgd : goodB (foldB t.text) with
        | true =>
          rw [hgd, if_pos rfl] at HRR
          clear hgd
          go_wp2_with fail
          go_ret2
          rw [HRR.out]
          exact ⟨by rw [← HXX.out]; rfl, HB2.out⟩
        | false =>
          rw [hgd, if_neg (by simp)] at HRR
          clear hgd
          go_wp2_with fail
          go_ret2
          rw [HRR.out]
          exact ⟨rfl, HB2.out⟩
      · have hn2 : 2 ≤ n := by rw [← HTL.out]; simp
        have hn2' : (2 : Int) ≤ n := by omega
        have hA2 := HA.out.step HB2.out
        obtain ⟨_, b0, b1, ulo, uhi, b2, b3⟩ := hA2.get (i := 1) rfl
        simp only [Nat.one_mul] at b0 b1 b2 b3
        have HA2 := Lib.hid hA2
        have hg2 : g < w2.heap.size := Nat.lt_of_lt_of_le hg HB2.out.size
        clear hA2 b2 b3
        have HKU := Lib.hid (show (u.kind == 111) = decide (u.kind.toNat = 111) by rw [Bool.eq_iff_iff]; simp [← UInt8.toNat_inj])
        have HSH := Lib.hid (show ((u.kind == 111) = false ∨ (u.text == [46]) = false ∨ nmAt (t :: u :: r) 2 = false) → takes (t :: u :: r) = (foldB t.text, 1) from fun h => by
          cases r with
          | nil => rfl
          | cons v r => exact takes_short1 h)
        by_cases k1 : u.kind.toNat = 111
        · have k2 : ((u.kind.toNat : Int) == 111) = true := by simp; omega
          have HK1 := Lib.hid k1
          clear k1
          cases k3 : (u.text == [46]) with
          | false =>
            have HTK := Lib.hid (HSH.out (.inr (.inl k3)))
            clear HKU HK1 HSH
            have HXX := Lib.hid HXE.out; have HBX := Lib.hid (show bytes X = foldB t.text by rw [HXE.out])
            clear HXE
            go_wp2_with fail
            refine (HG.out _ w2 (by omega)).mono ?_; rintro e w9 ⟨rfl, rfl⟩
            have HRR := Lib.hid (takeB_yes HNT.out HTK.out)
            rw [HBX.out]
            cases hgd : goodB (foldB t.text) with
            | true =>
              rw [hgd, if_pos rfl] at HRR
              clear hgd
              go_wp2_with fail
              go_ret2
              rw [HRR.out]
              exact ⟨by rw [← HXX.out]; rfl, HB2.out⟩
            | false =>
              rw [hgd, if_neg (by simp)] at HRR
              clear hgd
              go_wp2_with fail
              go_ret2
              rw [HRR.out]
              exact ⟨rfl, HB2.out⟩
          | true =>
            have HK3 := Lib.hid k3
            go_wp2_with fail
            refine (HN.out 2 w2 (by omega) HA2.out).mono ?_; rintro e w3 ⟨rfl, hb3⟩
            have HB3 := Lib.hid (HB2.out.step hb3 HB2.out.size)
            have HA3 := Lib.hid (HA2.out.step hb3)
            clear hb3 b0 b1
            cases k4 : nmAt (t :: u :: r) 2 with
            | false =>
              have HTK := Lib.hid (HSH.out (.inr (.inr k4)))
              clear HKU HK1 k4 HSH k3
              have HXX := Lib.hid HXE.out; have HBX := Lib.hid (show bytes X = foldB t.text by rw [HXE.out])
              clear HXE
              go_wp2_with fail
              refine (HG.out _ w3 (by omega)).mono ?_; rintro e w9 ⟨rfl, rfl⟩
              have HRR := Lib.hid (takeB_yes HNT.out HTK.out)
              rw [HBX.out]
              cases hgd : goodB (foldB t.text) with
              | true =>
                rw [hgd, if_pos rfl] at HRR
                clear hgd
                go_wp2_with fail
                go_ret2
                rw [HRR.out]
                exact ⟨by rw [← HXX.out]; rfl, HB3.out⟩
              | false =>
                rw [hgd, if_neg (by simp)] at HRR
                clear hgd
                go_wp2_with fail
                go_ret2
                rw [HRR.out]
                exact ⟨rfl, HB3.out⟩
            | true =>
              rcases r with _ | ⟨v, r⟩
              · cases k4
              have hn3 : 3 ≤ n := by rw [← HTL.out]; simp
              have hn3' : (3 : Int) ≤ n := by omega
              have HTK := Lib.hid (show takes (t :: u :: v :: r) = (foldB t.text ++ 46 :: foldB v.text, 3) from takes_long (by rw [HKU.out, decide_eq_true HK1.out]) k3 k4)
              have hvx : v.text.length ≤ 2000 := HTX.out v (by simp)
              obtain ⟨_, d0, d1, vlo, vhi, d2, d3⟩ := HA3.out.get (i := 2) rfl
              simp only [Nat.reduceMul] at d0 d1 d2 d3
              clear HKU HK1 k4 HSH k3 d0 d2 d3
              go_wp2_with fail
              refine (HF.out v.text w3 hvx).mono ?_; rintro e w4 ⟨rfl, hb4⟩
              have HB4 := Lib.hid (HB3.out.step hb4 HB3.out.size)
              obtain ⟨Y, hY⟩ : ∃ Y : ByteArray, Y = ⟨(foldB v.text).toArray⟩ := ⟨_, rfl⟩
              rw [← hY]
              have hYs : Y.size ≤ 2000 := by rw [hY, str_size, foldB_length]; exact hvx
              have hXY : X ++ { data := #[46] } ++ Y = ⟨(foldB t.text ++ 46 :: foldB v.text).toArray⟩ := by
                rw [HXE.out, hY, show ({ data := #[46] } : ByteArray) = ⟨[46].toArray⟩ from rfl, str_cat, str_cat]; simp
              have HXX := Lib.hid hXY
              have HBX := Lib.hid (show bytes (X ++ { data := #[46] } ++ Y) = foldB t.text ++ 46 :: foldB v.text by rw [hXY])
              clear hb4 HXE hY hXY hvx
              go_wp2_with fail
              refine (HG.out _ w4 (by simp only [ByteArray.size_append]; show X.size + 1 + Y.size ≤ 100000; omega)).mono ?_; rintro e w9 ⟨rfl, rfl⟩
              have HRR := Lib.hid (takeB_yes HNT.out HTK.out)
              rw [HBX.out]
              cases hgd : goodB (foldB t.text ++ 46 :: foldB v.text) with
              | true =>
                rw [hgd, if_pos rfl] at HRR
                clear hgd
                go_wp2_with fail
                go_ret2
                rw [HRR.out]
                exact ⟨by rw [← HXX.out]; rfl, HB4.out⟩
              | false =>
                rw [hgd, if_neg (by simp)] at HRR
                clear hgd
                go_wp2_with fail
                go_ret2
                rw [HRR.out]
                exact ⟨rfl, HB4.out⟩
        · have k2 : ((u.kind.toNat : Int) == 111) = false := by simp; omega
          have HTK := Lib.hid (HSH.out (.inl (by rw [HKU.out, decide_eq_false k1])))
          clear HKU k1 HSH
          have HXX := Lib.hid HXE.out; have HBX := Lib.hid (show bytes X = foldB t.text by rw [HXE.out])
          clear HXE
          go_wp2_with fail
          refine (HG.out _ w2 (by omega)).mono ?_; rintro e w9 ⟨rfl, rfl⟩
          have HRR := Lib.hid (takeB_yes HNT.out HTK.out)
          rw [HBX.out]
          cases hgd : goodB (foldB t.text) with
          | true =>
            rw [hgd, if_pos rfl] at HRR
            clear hgd
            go_wp2_with fail
            go_ret2
            rw [HRR.out]
            exact ⟨by rw [← HXX.out]; rfl, HB2.out⟩
          | false =>
            rw [hgd, if_neg (by simp)] at HRR
            clear hgd
            go_wp2_with fail
            go_ret2
            rw [HRR.out]
            exact ⟨rfl, HB2.out⟩
end Go.Proofs.YtalnflfafapicaaDoor
