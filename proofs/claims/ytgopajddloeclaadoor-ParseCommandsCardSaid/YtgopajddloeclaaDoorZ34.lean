/- Contracts and mathematics: NRefTake, QRName, NToks. -/
import Derived.Test.YtgopajddloeclaaDoorZ33
import Derived.Test.YtgopajddloeclaaDoorZ29
import Derived.Test.YtgopajddloeclaaDoorZ13
import Derived.BigQuiet
import Derived.WalkSmall
import Derived.Deep.QuietTactic
import Derived.Test.YtgopajddloeclaaDoorZ15
import Derived.Deep.SlicePairs
namespace Go.Proofs.YtgopajddloeclaaDoor
open Go.RowKit Go.Lib Go.WideShapes

/-- May the token at i be a part of a name? -/
def nmAt (T : List Tok) (i : Nat) : Bool := (T[i]?.map nm).getD false

theorem refnamed_any (p : Option Addr) (T : List Tok) (n c i : Nat) (w : World) (hT : T.length = n) (_hn : n ≤ 100000) (hi : i ≤ 2) (hA : TokW w p T) :
    Calls Tryd.prog 104 #[.slice p n c, .int .i64 i] w fun e w' => e = .returned (.bool (nmAt T i)) ∧ Below w.heap.size w w' := by
  by_cases hlt : i < n
  · obtain ⟨t, ht⟩ : ∃ t, T[i]? = some t := ⟨_, List.getElem?_eq_getElem (by rw [hT]; exact hlt)⟩
    obtain ⟨g, off, rfl, hg⟩ : ∃ g off, p = some ⟨g, off, none⟩ ∧ g < w.heap.size := by
      rcases hA with h | ⟨g, off, hp, hg, _⟩
      · rw [h] at ht; cases ht
      · exact ⟨g, off, hp, hg⟩
    obtain ⟨_, a0, _, lo, hi', _, _⟩ := hA.get ht
    have hv : nmAt T i = (decide (t.kind.toNat = 119) || decide (t.kind.toNat = 113)) := by
      unfold nmAt nm
      rw [ht]
      show (t.kind == 119 || t.kind == 113) = _
      rw [show (t.kind == 119) = decide (t.kind.toNat = 119) by rw [Bool.eq_iff_iff]; simp [← UInt8.toNat_inj], show (t.kind == 113) = decide (t.kind.toNat = 113) by rw [Bool.eq_iff_iff]; simp [← UInt8.toNat_inj]]
    rw [hv]
    have hlt' : (i : Int) < n := by omega
    have hi9 : (i : Int) ≤ 2 := by omega
    clear hA ht hv hT
    generalize t.kind.toNat = kk at a0
    by_cases h1 : kk = 119
    · have hb : ((kk : Int) == 119) = true := by simp; omega
      rw [decide_eq_true h1]
      clear h1
      go_enter Tryd.func104, Tryd.ntmps104
      go_wp2_with fail
      go_ret
      exact ⟨rfl, Below.refl _ _⟩
    · have hb : ((kk : Int) == 119) = false := by simp; omega
      rw [decide_eq_false h1]
      by_cases h2 : kk = 113
      · have hc : ((kk : Int) == 113) = true := by simp; omega
        rw [decide_eq_true h2]
        clear h1 h2
        go_enter Tryd.func104, Tryd.ntmps104
        go_wp2_with fail
        go_ret
        exact ⟨rfl, Below.refl _ _⟩
      · have hc : ((kk : Int) == 113) = false := by simp; omega
        rw [decide_eq_false h2]
        clear h1 h2
        go_enter Tryd.func104, Tryd.ntmps104
        go_wp2_with fail
        go_ret
        exact ⟨rfl, Below.refl _ _⟩
  · have hv : nmAt T i = false := by unfold nmAt; rw [List.getElem?_eq_none (by rw [hT]; omega)]; rfl
    rw [hv]
    have hlt' : (n : Int) ≤ i := by omega
    have hd : decide ((i : Int) < n) = false := by simp; omega
    have hi9 : (i : Int) ≤ 2 := by omega
    clear hA hv hT
    go_enter Tryd.func104, Tryd.ntmps104
    go_wp2_with fail
    go_ret
    exact ⟨rfl, Below.refl _ _⟩

theorem reffold_bs (l : Bs) (w : World) (hs : l.length ≤ 2000) :
    Calls Tryd.prog 99 #[.string ⟨l.toArray⟩] w fun e w' => e = .returned (.string ⟨(foldB l).toArray⟩) ∧ Below w.heap.size w w' := by
  have := reffold_any ⟨l.toArray⟩ w (by rw [str_size]; exact hs)
  rw [show (bytes ⟨l.toArray⟩).map low = foldB l by simp [bytes, foldB]] at this
  exact this

set_option maxRecDepth 100000 in
set_option maxHeartbeats 16000000 in
theorem reftake_any (p : Option Addr) (T : List Tok) (n c : Nat) (w : World) (hT : T.length = n) (hn : n ≤ 100000) (hA : TokW w p T) (hx : ∀ q ∈ T, q.text.length ≤ 2000) :
    Calls Tryd.prog 76 #[.slice p n c] w (Took w (takeB T)) := by
  have HG := Lib.hid (fun (S : ByteArray) (W : World) h1 => refgood_any S W h1)
  have HF := Lib.hid (fun (S : Bs) (W : World) h1 => reffold_bs S W h1)
  have HN := Lib.hid (fun (i : Nat) (W : World) h1 h2 => refnamed_any p T n c i W hT (by omega) h1 h2)
  have HA := Lib.hid hA
  cases T with
  | nil =>
    obtain rfl : 0 = n := hT
    clear hx hn hA
    go_enter Tryd.func76, Tryd.ntmps76
    go_wp2_with fail
    refine (HN.out 0 w (by omega) HA.out).mono ?_; rintro e w1 ⟨rfl, hb1⟩
    rw [show nmAt [] 0 = false from rfl]
    have HB1 := Lib.hid hb1
    clear hb1
    go_wp2_with fail
    go_ret2
    exact ⟨rfl, HB1.out⟩
  | cons t r =>
    obtain ⟨g, off, rfl, hg⟩ : ∃ g off, p = some ⟨g, off, none⟩ ∧ g < w.heap.size := by
      rcases hA with h | ⟨g, off, hp, hg, _⟩
      · cases h
      · exact ⟨g, off, hp, hg⟩
    obtain ⟨_, a0, a1, tlo, thi, a2, a3⟩ := hA.get (i := 0) rfl
    simp only [Nat.zero_mul, Nat.add_zero] at a0 a1 a2 a3
    have hn1 : 0 < n := by rw [← hT]; exact Nat.succ_pos _
    have hn1' : (1 : Int) ≤ n := by omega
    have HTX := Lib.hid hx
    have HTL := Lib.hid hT
    clear hA hx hT a0 a2 a3
    cases hnt : nm t with
    | false =>
      rw [takeB_no hnt]
      have HNT := Lib.hid hnt
      clear hnt
      go_enter Tryd.func76, Tryd.ntmps76
      go_wp2_with fail
      refine (HN.out 0 w (by omega) HA.out).mono ?_; rintro e w1 ⟨rfl, hb1⟩
      rw [show nmAt (t :: r) 0 = false from HNT.out]
      have HB1 := Lib.hid hb1
      clear hb1
      go_wp2_with fail
      go_ret2
      exact ⟨rfl, HB1.out⟩
    | true =>
      have HNT := Lib.hid hnt
      clear hnt
      have htx : t.text.length ≤ 2000 := HTX.out t (List.mem_cons_self ..)
      go_enter Tryd.func76, Tryd.ntmps76
      go_wp2_with fail
      refine (HN.out 0 w (by omega) HA.out).mono ?_; rintro e w1 ⟨rfl, hb1⟩
      rw [show nmAt (t :: r) 0 = true from HNT.out]
      have HB1 := Lib.hid hb1
      have a1 := (hb1.cell (p := ⟨g, off + 1, none⟩) hg).trans a1
      clear hb1
      go_wp2_with fail
      refine (HF.out t.text w1 htx).mono ?_; rintro e w2 ⟨rfl, hb2⟩
      have HB2 := Lib.hid (HB1.out.step hb2 HB1.out.size)
      clear hb2 HB1
      obtain ⟨X, hX⟩ : ∃ X : ByteArray, X = ⟨(foldB t.text).toArray⟩ := ⟨_, rfl⟩
      rw [← hX]
      have hXs : X.size ≤ 2000 := by rw [hX, str_size, foldB_length]; exact htx
      have HXE := Lib.hid hX
      clear htx hX
      rcases r with _ | ⟨u, r⟩
      · obtain rfl : 1 = n := HTL.out
        have HTK := Lib.hid (show takes (t :: []) = (foldB t.text, 1) from rfl)
        have HXX := Lib.hid HXE.out; have HBX := Lib.hid (show bytes X = foldB t.text by rw [HXE.out])
        clear HXE
        go_wp2_with fail
        refine (HG.out _ w2 (by omega)).mono ?_; rintro e w9 ⟨rfl, rfl⟩
        have HRR := Lib.hid (takeB_yes HNT.out HTK.out)
        rw [HBX.out]
        cases hgd : goodB (foldB t.text) with
        | true =>
          rw [hgd, if_pos rfl] at HRR
          clear hgd
          go_wp2_with fail
          go_ret2
          rw [HRR.out]
          exact ⟨by rw [← HXX.out]; rfl, HB2.out⟩
        | false =>
          rw [hgd, if_neg (by simp)] at HRR
          clear hgd
          go_wp2_with fail
          go_ret2
          rw [HRR.out]
          exact ⟨rfl, HB2.out⟩
      · have hn2 : 2 ≤ n := by rw [← HTL.out]; simp
        have hn2' : (2 : Int) ≤ n := by omega
        have hA2 := HA.out.step HB2.out
        obtain ⟨_, b0, b1, ulo, uhi, b2, b3⟩ := hA2.get (i := 1) rfl
        simp only [Nat.one_mul] at b0 b1 b2 b3
        have HA2 := Lib.hid hA2
        have hg2 : g < w2.heap.size := Nat.lt_of_lt_of_le hg HB2.out.size
        clear hA2 b2 b3
        have HKU := Lib.hid (show (u.kind == 111) = decide (u.kind.toNat = 111) by rw [Bool.eq_iff_iff]; simp [← UInt8.toNat_inj])
        have HSH := Lib.hid (show ((u.kind == 111) = false ∨ (u.text == [46]) = false ∨ nmAt (t :: u :: r) 2 = false) → takes (t :: u :: r) = (foldB t.text, 1) from fun h => by
          cases r with
          | nil => rfl
          | cons v r => exact takes_short1 h)
        by_cases k1 : u.kind.toNat = 111
        · have k2 : ((u.kind.toNat : Int) == 111) = true := by simp; omega
          have HK1 := Lib.hid k1
          clear k1
          cases k3 : (u.text == [46]) with
          | false =>
            have HTK := Lib.hid (HSH.out (.inr (.inl k3)))
            clear HKU HK1 HSH
            have HXX := Lib.hid HXE.out; have HBX := Lib.hid (show bytes X = foldB t.text by rw [HXE.out])
            clear HXE
            go_wp2_with fail
            refine (HG.out _ w2 (by omega)).mono ?_; rintro e w9 ⟨rfl, rfl⟩
            have HRR := Lib.hid (takeB_yes HNT.out HTK.out)
            rw [HBX.out]
            cases hgd : goodB (foldB t.text) with
            | true =>
              rw [hgd, if_pos rfl] at HRR
              clear hgd
              go_wp2_with fail
              go_ret2
              rw [HRR.out]
              exact ⟨by rw [← HXX.out]; rfl, HB2.out⟩
            | false =>
              rw [hgd, if_neg (by simp)] at HRR
              clear hgd
              go_wp2_with fail
              go_ret2
              rw [HRR.out]
              exact ⟨rfl, HB2.out⟩
          | true =>
            have HK3 := Lib.hid k3
            go_wp2_with fail
            refine (HN.out 2 w2 (by omega) HA2.out).mono ?_; rintro e w3 ⟨rfl, hb3⟩
            have HB3 := Lib.hid (HB2.out.step hb3 HB2.out.size)
            have HA3 := Lib.hid (HA2.out.step hb3)
            clear hb3 b0 b1
            cases k4 : nmAt (t :: u :: r) 2 with
            | false =>
              have HTK := Lib.hid (HSH.out (.inr (.inr k4)))
              clear HKU HK1 k4 HSH k3
              have HXX := Lib.hid HXE.out; have HBX := Lib.hid (show bytes X = foldB t.text by rw [HXE.out])
              clear HXE
              go_wp2_with fail
              refine (HG.out _ w3 (by omega)).mono ?_; rintro e w9 ⟨rfl, rfl⟩
              have HRR := Lib.hid (takeB_yes HNT.out HTK.out)
              rw [HBX.out]
              cases hgd : goodB (foldB t.text) with
              | true =>
                rw [hgd, if_pos rfl] at HRR
                clear hgd
                go_wp2_with fail
                go_ret2
                rw [HRR.out]
                exact ⟨by rw [← HXX.out]; rfl, HB3.out⟩
              | false =>
                rw [hgd, if_neg (by simp)] at HRR
                clear hgd
                go_wp2_with fail
                go_ret2
                rw [HRR.out]
                exact ⟨rfl, HB3.out⟩
            | true =>
              rcases r with _ | ⟨v, r⟩
              · cases k4
              have hn3 : 3 ≤ n := by rw [← HTL.out]; simp
              have hn3' : (3 : Int) ≤ n := by omega
              have HTK := Lib.hid (show takes (t :: u :: v :: r) = (foldB t.text ++ 46 :: foldB v.text, 3) from takes_long (by rw [HKU.out, decide_eq_true HK1.out]) k3 k4)
              have hvx : v.text.length ≤ 2000 := HTX.out v (by simp)
              obtain ⟨_, d0, d1, vlo, vhi, d2, d3⟩ := HA3.out.get (i := 2) rfl
              simp only [Nat.reduceMul] at d0 d1 d2 d3
              clear HKU HK1 k4 HSH k3 d0 d2 d3
              go_wp2_with fail
              refine (HF.out v.text w3 hvx).mono ?_; rintro e w4 ⟨rfl, hb4⟩
              have HB4 := Lib.hid (HB3.out.step hb4 HB3.out.size)
              obtain ⟨Y, hY⟩ : ∃ Y : ByteArray, Y = ⟨(foldB v.text).toArray⟩ := ⟨_, rfl⟩
              rw [← hY]
              have hYs : Y.size ≤ 2000 := by rw [hY, str_size, foldB_length]; exact hvx
              have hXY : X ++ { data := #[46] } ++ Y = ⟨(foldB t.text ++ 46 :: foldB v.text).toArray⟩ := by
                rw [HXE.out, hY, show ({ data := #[46] } : ByteArray) = ⟨[46].toArray⟩ from rfl, str_cat, str_cat]; simp
              have HXX := Lib.hid hXY
              have HBX := Lib.hid (show bytes (X ++ { data := #[46] } ++ Y) = foldB t.text ++ 46 :: foldB v.text by rw [hXY])
              clear hb4 HXE hY hXY hvx
              go_wp2_with fail
              refine (HG.out _ w4 (by simp only [ByteArray.size_append]; show X.size + 1 + Y.size ≤ 100000; omega)).mono ?_; rintro e w9 ⟨rfl, rfl⟩
              have HRR := Lib.hid (takeB_yes HNT.out HTK.out)
              rw [HBX.out]
              cases hgd : goodB (foldB t.text ++ 46 :: foldB v.text) with
              | true =>
                rw [hgd, if_pos rfl] at HRR
                clear hgd
                go_wp2_with fail
                go_ret2
                rw [HRR.out]
                exact ⟨by rw [← HXX.out]; rfl, HB4.out⟩
              | false =>
                rw [hgd, if_neg (by simp)] at HRR
                clear hgd
                go_wp2_with fail
                go_ret2
                rw [HRR.out]
                exact ⟨rfl, HB4.out⟩
        · have k2 : ((u.kind.toNat : Int) == 111) = false := by simp; omega
          have HTK := Lib.hid (HSH.out (.inl (by rw [HKU.out, decide_eq_false k1])))
          clear HKU k1 HSH
          have HXX := Lib.hid HXE.out; have HBX := Lib.hid (show bytes X = foldB t.text by rw [HXE.out])
          clear HXE
          go_wp2_with fail
          refine (HG.out _ w2 (by omega)).mono ?_; rintro e w9 ⟨rfl, rfl⟩
          have HRR := Lib.hid (takeB_yes HNT.out HTK.out)
          rw [HBX.out]
          cases hgd : goodB (foldB t.text) with
          | true =>
            rw [hgd, if_pos rfl] at HRR
            clear hgd
            go_wp2_with fail
            go_ret2
            rw [HRR.out]
            exact ⟨by rw [← HXX.out]; rfl, HB2.out⟩
          | false =>
            rw [hgd, if_neg (by simp)] at HRR
            clear hgd
            go_wp2_with fail
            go_ret2
            rw [HRR.out]
            exact ⟨rfl, HB2.out⟩
end Go.Proofs.YtgopajddloeclaaDoor

namespace Go.Proofs.YtgopajddloeclaaDoor
open Go.RowKit Go.Lib Go.WideShapes

def toB (L : List Tok) : Bool := match L with
  | t :: _ => assignsB t
  | [] => false
def toR (L : List Tok) : List Tok := if toB L then L.drop 1 else L
set_option maxRecDepth 100000 in
set_option maxHeartbeats 4000000 in
theorem rto_any (p : Nat) (L : List Tok) (w : World) (h : RestAt w p L) :
    Calls Tryd.prog 74 #[.pointer (some ⟨p, 0, none⟩)] w (ROut w p (.bool (toB L)) (toR L)) := by
  have HW := Lib.hid (rword_any p { data := #[116, 111] } L w h)
  rw [show bytes { data := #[116, 111] } = w_to from rfl] at HW
  obtain ⟨a, c, hC, hc, h9, hn, hT, hx⟩ := h
  have c0 := hC.cell
  have f0 := hC.frozen 0
  obtain ⟨BB, hBB⟩ : ∃ z, z = toB L := ⟨_, rfl⟩
  obtain ⟨LL, hLL⟩ : ∃ z, z = toR L := ⟨_, rfl⟩
  have HBB := Lib.hid hBB; have HLL := Lib.hid hLL
  rw [← hBB, ← hLL]
  clear hBB hLL
  cases L with
  | nil =>
    have HG := Lib.hid (show ∀ e w', ROut w p (.bool (beginsW [] w_to)) (wordR [] w_to) e w' → ROut w p (.bool BB) LL e w' from fun e w' h => by rw [HBB.out, HLL.out]; exact h)
    clear hC hT hx
    go_enter Tryd.func74, Tryd.ntmps74
    go_wp2_with fail
    refine HW.out.mono ?_; intro e w1 ho
    obtain ⟨rfl, hR, hT⟩ := HG.out e w1 ho
    have HR := Lib.hid hR; have HT := Lib.hid hT
    obtain ⟨rfl⟩ : beginsW [] w_to = false := rfl
    clear hR hT ho
    go_wp2_with fail
    go_ret
    exact ⟨rfl, HR.out, HT.out⟩
  | cons t r =>
    obtain ⟨g, off, rfl, hg, hT'⟩ := hT.first
    obtain ⟨_, a0, a1, _⟩ := hT'.get (i := 0) rfl
    rw [Nat.zero_mul, Nat.add_zero] at a0 a1
    obtain ⟨n, hnn⟩ : ∃ n, n = (t :: r).length := ⟨_, rfl⟩
    have hn1 : (0 : Int) < n := by rw [hnn, List.length_cons]; omega
    have hn0 : (n : Int) ≤ c := by omega
    have hn1' : 1 ≤ n := by omega
    have hn2 : (1 : Int) ≤ n := by omega
    have HP := Lib.hid (show ∀ a', (1 < n → a' = some ⟨g, off + 4, none⟩) → RestAt (w.setCell ⟨p, 0, none⟩ (.slice a' (n - 1) (c - 1))) p ((t :: r).drop 1) from fun a' ha => by rw [hnn]; exact rest_drop hC hc h9 hn hT hx (List.cons_ne_nil _ _) 1 (by simp) a' (fun hk => by rw [ha (by rw [hnn]; exact hk)]))
    have HAS := Lib.hid (show toB (t :: r) = ((decide (t.kind.toNat = 119) && (t.text == w_to)) || (decide (t.kind.toNat = 111) && (t.text == [61]))) from by
      show ((t.kind == 119 && t.text == w_to) || (t.kind == 111 && t.text == [61])) = _
      rw [kind_eq, kind_eq]; rfl)
    have HBG := Lib.hid (show beginsW (t :: r) w_to = (decide (t.kind.toNat = 119) && (t.text == w_to)) from by show (t.kind == 119 && t.text == w_to) = _; rw [kind_eq]; rfl)
    obtain ⟨XT, hXT⟩ : ∃ z : ByteArray, z = ⟨t.text.toArray⟩ := ⟨_, rfl⟩
    have hXl : XT.toList = t.text := by rw [hXT]; exact str_list _
    rw [← hnn] at c0
    rw [← hXT] at a1
    obtain ⟨kk, hkk⟩ : ∃ z, z = t.kind.toNat := ⟨_, rfl⟩
    rw [← hkk] at a0 HAS HBG
    have HEL := Lib.hid (show (kk = 111 ∧ t.text = [61]) ∨ toB (t :: r) = beginsW (t :: r) w_to from by
      by_cases h1 : kk = 111
      · by_cases h2 : t.text = [61]
        · exact .inl ⟨h1, h2⟩
        · right; rw [HAS.out, HBG.out, beq_eq_false_iff_ne.2 h2]; simp
      · right; rw [HAS.out, HBG.out, decide_eq_false h1]; simp)
    have HXL := Lib.hid hXl
    clear hC hT hT' hx hc hn hnn hXT hkk hXl
    by_cases hs : kk = 111 ∧ t.text = [61]
    · obtain ⟨h1, h2⟩ := hs
      have q1 : ((kk : Int) == 111) = true := by rw [h1]; rfl
      have q2 : (XT.toList == [61]) = true := by rw [HXL.out, h2]; rfl
      obtain rfl : BB = true := by rw [HBB.out, HAS.out, h1, h2]; rfl
      have HL1 := Lib.hid (show LL = (t :: r).drop 1 from by rw [HLL.out]; unfold toR; rw [← HBB.out]; rfl)
      rw [← HL1.out] at HP
      clear h1 h2
      by_cases hd : c = 1
      · have hd1 : n = 1 := by omega
        subst hd hd1
        go_enter Tryd.func74, Tryd.ntmps74
        go_wp2_with fail
        go_ret
        exact ⟨rfl, HP.out _ (fun h => absurd h (by omega)), TurnedR.set _ _ _ _⟩
      · have hd2 : ¬ c - 1 = 0 := by omega
        go_enter Tryd.func74, Tryd.ntmps74
        go_wp2_with fail
        go_ret
        exact ⟨rfl, HP.out _ (fun _ => rfl), TurnedR.set _ _ _ _⟩
    · have hEQ := HEL.out.resolve_left hs
      have HG := Lib.hid (show ∀ e w', ROut w p (.bool (beginsW (t :: r) w_to)) (wordR (t :: r) w_to) e w' → ROut w p (.bool BB) LL e w' from fun e w' h => by
        rw [HBB.out, HLL.out]
        unfold toR
        rw [hEQ]; exact h)
      clear hEQ
      by_cases h1 : kk = 111
      · have q1 : ((kk : Int) == 111) = true := by rw [h1]; rfl
        have q2 : (XT.toList == [61]) = false := by rw [HXL.out, beq_eq_false_iff_ne]; exact fun e => hs ⟨h1, e⟩
        clear h1 hs
        go_enter Tryd.func74, Tryd.ntmps74
        go_wp2_with fail
        refine HW.out.mono ?_; intro e w1 ho
        obtain ⟨rfl, hR, hT⟩ := HG.out e w1 ho
        have HR := Lib.hid hR; have HT := Lib.hid hT
        clear hR hT ho
        go_wp2_with fail
        go_ret
        exact ⟨rfl, HR.out, HT.out⟩
      · have q1 : ((kk : Int) == 111) = false := by rw [beq_eq_false_iff_ne]; omega
        clear h1 hs
        go_enter Tryd.func74, Tryd.ntmps74
        go_wp2_with fail
        refine HW.out.mono ?_; intro e w1 ho
        obtain ⟨rfl, hR, hT⟩ := HG.out e w1 ho
        have HR := Lib.hid hR; have HT := Lib.hid hT
        clear hR hT ho
        go_wp2_with fail
        go_ret
        exact ⟨rfl, HR.out, HT.out⟩
set_option maxRecDepth 100000 in
set_option maxHeartbeats 4000000 in
theorem rname_any (p : Nat) (L : List Tok) (w : World) (h : RestAt w p L) :
    Calls Tryd.prog 49 #[.pointer (some ⟨p, 0, none⟩)] w (ROut w p (.string ⟨(takeB L).1.toArray⟩) (L.drop (takeB L).2)) := by
  have HH := Lib.hid h
  obtain ⟨a, c, hC, hc, h9, hn, hT, hx⟩ := h
  have c0 := hC.cell
  have HTK := Lib.hid (reftake_any a L L.length c w rfl hn hT hx)
  have hkl := takeB_le L
  obtain ⟨q, hq⟩ : ∃ q, q = takeB L := ⟨_, rfl⟩
  rw [← hq] at HTK hkl ⊢
  obtain ⟨x, k⟩ := q
  obtain ⟨n, hnn⟩ : ∃ n, n = L.length := ⟨_, rfl⟩
  have hkn9 : k ≤ n := by rw [hnn]; exact hkl
  clear hkl
  have hncc : n ≤ c := by omega
  have HPP := Lib.hid (show ∀ w1 : World, Below w.heap.size w w1 → (w1.cell? ⟨p, 0, none⟩ = some (.slice a n c) ∧ w1.frozen? ⟨p, 0, none⟩ = false) ∧ (L ≠ [] → ∃ g off, a = some ⟨g, off, none⟩ ∧ ∀ a', (k < n → a' = some ⟨g, off + k * 4, none⟩) → RestAt (w1.setCell ⟨p, 0, none⟩ (.slice a' (n - k) (c - k))) p (L.drop k)) ∧ (L = [] → ∀ a' c', c' ≤ c → RestAt (w1.setCell ⟨p, 0, none⟩ (.slice a' 0 c')) p []) from fun w1 hb => by
    have hC1 : RCell w1 p (.slice a L.length c) := (hb.block p hC.lt).trans hC
    refine ⟨⟨by rw [hnn]; exact hC1.cell, hC1.frozen 0⟩, fun hL => ?_, fun hL a' c' hc' => ⟨a', c', hC1.put _, Nat.zero_le _, by omega, by decide, .inl rfl, fun q hq => by cases hq⟩⟩
    cases L with
    | nil => exact absurd rfl hL
    | cons t r =>
      obtain ⟨g, off, rfl, hg, hT'⟩ := hT.first
      refine ⟨g, off, rfl, fun a' ha => ?_⟩
      rw [hnn]
      exact rest_drop hC1 hc h9 hn (hT.step hb) hx (List.cons_ne_nil _ _) k (by have h8 : k ≤ n := hkn9; omega) a' (fun hk => ha (by rw [hnn]; exact hk)))
  have HNN := Lib.hid hnn
  rw [← hnn] at c0 HTK
  clear hC hc h9 hn hT hx hq hnn
  go_enter Tryd.func49, Tryd.ntmps49
  go_wp2_with fail
  refine HTK.out.mono ?_; rintro e w1 ⟨rfl, hb⟩
  obtain ⟨⟨d0, f0⟩, hA, hB⟩ := HPP.out w1 hb
  have HB1 := Lib.hid (TurnedR.below (p := p) hb)
  have HA := Lib.hid hA; have HB := Lib.hid hB
  clear hb hA hB c0
  have hk0 : (0 : Int) ≤ k := by omega
  have hkn : (k : Int) ≤ n := by omega
  have hkc : (k : Int) ≤ c := by omega
  have hnc : (n : Int) ≤ c := by omega
  by_cases hL : L = []
  · have hn0 : n = 0 := by rw [HNN.out, hL]; rfl
    obtain rfl : k = 0 := by omega
    subst hn0
    have HB2 := Lib.hid (HB.out hL)
    have HD := Lib.hid (show L.drop 0 = [] from by rw [hL]; rfl)
    clear hL
    go_wp2_with fail
    go_ret
    rw [HD.out]
    exact ⟨rfl, HB2.out _ _ (by first | omega | simp), HB1.out.trans (TurnedR.set _ _ _ _)⟩
  · obtain ⟨g, off, rfl, hA2⟩ := HA.out hL
    have HA2 := Lib.hid hA2
    clear hA2 hL
    by_cases hck : c = k
    · have hnk : n = k := by omega
      subst hck
      subst hnk
      go_wp2_with fail
      go_ret
      have h3 := HA2.out (some ⟨g, off, none⟩) (fun h => absurd h (Nat.lt_irrefl _))
      simp only [Nat.sub_self] at h3
      exact ⟨rfl, h3, HB1.out.trans (TurnedR.set _ _ _ _)⟩
    · have hd2 : ¬ c - k = 0 := by omega
      go_wp2_with fail
      go_ret
      exact ⟨rfl, HA2.out _ (fun _ => rfl), HB1.out.trans (TurnedR.set _ _ _ _)⟩
end Go.Proofs.YtgopajddloeclaaDoor

namespace Go.Proofs.YtgopajddloeclaaDoor
open Go.ChangeShapes Go.WideShapes Go.ChangeAt Go.RowKit

theorem byte_in {z : Int} (h : (Lit.int .u8 z).wf = true) : 0 ≤ z ∧ z < 256 := by
  have hmin : IntKind.u8.min = 0 := rfl
  have hmax : IntKind.u8.max = 255 := rfl
  simp only [Lit.wf, Bool.and_eq_true, decide_eq_true_eq] at h
  omega

set_option maxRecDepth 100000 in
theorem open_toks {H : Type} {enc : TypeId × Value → H} {w : World} {a : Option Addr} {len cap : Nat} {d : DataW H} {p : List MemPlace} (h : DataW.Trod enc Tryd.prog w 0 (fun _ => true) true 22 (.slice a len cap) d p) :
    ∃ T : List Tok, T.length = len ∧ TokW w a T := by
  obtain ⟨fuel, hf⟩ := h
  have hf' : DataW.trod enc Tryd.prog w 0 (fun _ => true) true fuel 22 [.slice a len cap] = some (d, p) := by simpa [Value.cells] using hf
  rcases Go.Deep.open_slice Tryd.underlying22 hf' with ⟨h0, _⟩ | ⟨a', len', cap', m, n, D, Pl, hcs, _, hl, _, hm, _, hx⟩
  · simp at h0
    obtain ⟨rfl, rfl, rfl⟩ := h0
    exact ⟨[], rfl, .inl rfl⟩
  · simp only [List.cons.injEq, Value.slice.injEq, and_true] at hcs
    obtain ⟨rfl, rfl, rfl⟩ := hcs
    have hlm : len ≤ m := by rw [hm]; simp; exact hl
    have ce : Tryd.prog.cellsOf 25 = 4 := by kernel_rfl
    have each : ∀ i, i < len → ∃ q : Tok × Int × Int, w.cell? (a'.add (i * 4)) = some (.int .u8 (q.1.kind.toNat : Nat)) ∧ w.cell? (a'.add (i * 4 + 1)) = some (.string ⟨q.1.text.toArray⟩) ∧ w.cell? (a'.add (i * 4 + 2)) = some (.int .i64 q.2.1) ∧ w.cell? (a'.add (i * 4 + 3)) = some (.int .i64 q.2.2) := by
      intro i hi
      obtain ⟨cs', h1, h2⟩ := hx i (by omega)
      rw [ce] at h1
      obtain ⟨_, hlen, hcell⟩ := World.cells?_some h1
      obtain ⟨xs, k, hk, hxy, _, hxl, hf⟩ := DataW.trod_struct Tryd.underlying25 h2
      match xs, hxl, cs', hlen with
      | [y0, y1, y2, y3], _, [v0, v1, v2, v3], _ =>
        have g0 := hf 0 _ rfl
        have g1 := hf 1 _ rfl
        have g2 := hf 2 _ rfl
        have g3 := hf 3 _ rfl
        have c1 : Tryd.prog.cellsOf 5 = 1 := by kernel_rfl
        have c2 : Tryd.prog.cellsOf 9 = 1 := by kernel_rfl
        have c3 : Tryd.prog.cellsOf 3 = 1 := by kernel_rfl
        simp [c1, c2, c3] at g0 g1 g2 g3
        obtain ⟨z0, e0, _, wz⟩ := DataW.trod_int Tryd.underlying5 g0
        obtain ⟨z1, e1, _, _⟩ := DataW.trod_string Tryd.underlying9 g1
        obtain ⟨z2, e2, _, _⟩ := DataW.trod_int Tryd.underlying3 g2
        obtain ⟨z3, e3, _, _⟩ := DataW.trod_int Tryd.underlying3 g3
        simp at e0 e1 e2 e3
        subst e0 e1 e2 e3
        have hz := byte_in wz
        have d0 := hcell 0 (by omega)
        have d1 := hcell 1 (by omega)
        have d2 := hcell 2 (by omega)
        have d3 := hcell 3 (by omega)
        rw [Go.Deep.add_add] at d0 d1 d2 d3
        simp at d0 d1 d2 d3
        refine ⟨(⟨UInt8.ofNat z0.toNat, bytes z1, 0, 0⟩, z2, z3), ?_, ?_, d2, d3⟩
        · rw [d0]
          have : ((UInt8.ofNat z0.toNat).toNat : Int) = z0 := by rw [UInt8.toNat_ofNat', Nat.mod_eq_of_lt (by omega)]; omega
          rw [this]
        · rw [d1]
    haveI : Inhabited (Tok × Int × Int) := ⟨(⟨0, [], 0, 0⟩, 0, 0)⟩
    obtain ⟨q, hq⟩ := Go.Deep.choose_lt each
    refine ⟨(List.range len).map fun i => (q i).1, by simp, ?_⟩
    by_cases h0 : len = 0
    · subst h0; exact .inl rfl
    right
    obtain ⟨b, off, spot⟩ := a'
    have hs0 := (hq 0 (by omega)).1
    have hspot : spot = none := by simpa [Addr.add] using World.cell?_spot hs0
    subst hspot
    refine ⟨b, off, rfl, World.block_lt_of_cell? w ((⟨b, off, none⟩ : Addr).add (0 * 4)) hs0, fun i x hx => ?_⟩
    obtain ⟨hi, rfl⟩ : i < len ∧ (q i).1 = x := by
      rw [List.getElem?_map] at hx
      by_cases hi : i < len
      · rw [List.getElem?_range hi] at hx
        exact ⟨hi, Option.some.inj hx⟩
      · rw [List.getElem?_eq_none (by simp; omega)] at hx; cases hx
    obtain ⟨d0, d1, d2, d3⟩ := hq i hi
    rw [Go.WideShapes.add_plain] at d0 d1 d2 d3
    exact ⟨d0, by rw [Nat.add_assoc]; exact d1, (q i).2.1, (q i).2.2, by rw [Nat.add_assoc]; exact d2, by rw [Nat.add_assoc]; exact d3⟩
end Go.Proofs.YtgopajddloeclaaDoor
