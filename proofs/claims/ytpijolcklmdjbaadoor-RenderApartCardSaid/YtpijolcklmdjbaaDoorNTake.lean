/- The name that tokens begin with. -/
import Derived.Test.YtpijolcklmdjbaaDoorNNameM
import Derived.Test.YtpijolcklmdjbaaDoorTold
namespace Go.Proofs.YtpijolcklmdjbaaDoor
open Go.RowKit Go.Lib Go.WideShapes

/-- May a token be a part of a name? -/
def nm (t : Tok) : Bool := t.kind == 119 || t.kind == 113
def foldB (l : Bs) : Bs := l.map low
/-- What is taken, as it stands, and of how many tokens. -/
def takes : List Tok → Bs × Nat
  | t :: u :: v :: _ => if (u.kind == 111 && u.text == [46]) && nm v then (foldB t.text ++ 46 :: foldB v.text, 3) else (foldB t.text, 1)
  | t :: _ => (foldB t.text, 1)
  | [] => ([], 0)
def nmHead : List Tok → Bool
  | t :: _ => nm t
  | [] => false
def takeB (l : List Tok) : Bs × Nat := if nmHead l && goodB (takes l).1 then takes l else ([], 0)

theorem named_any (k : UInt8) (t : Bs) (lo hi : Int) (w : World) :
    Calls Tryd.prog 22 #[.agg #[.int .u8 (k.toNat : Nat), .string ⟨t.toArray⟩, .int .i64 lo, .int .i64 hi]] w fun e w' => e = .returned (.bool (k == 119 || k == 113)) ∧ Below w.heap.size w w' := by
  have e1 : (k == 119) = decide (k.toNat = 119) := by rw [Bool.eq_iff_iff]; simp [← UInt8.toNat_inj]
  have e2 : (k == 113) = decide (k.toNat = 113) := by rw [Bool.eq_iff_iff]; simp [← UInt8.toNat_inj]
  rw [e1, e2]
  by_cases h1 : k.toNat = 119
  · have hb : ((k.toNat : Int) == 119) = true := by simp; omega
    rw [decide_eq_true h1]
    clear e1 e2 h1
    go_enter Tryd.func22, Tryd.ntmps22
    go_wp2_with fail
    go_ret
    exact ⟨rfl, (Below.refl _ _).alloc (Nat.le_refl _) _⟩
  · have hb : ((k.toNat : Int) == 119) = false := by simp; omega
    rw [decide_eq_false h1]
    by_cases h2 : k.toNat = 113
    · have hc : ((k.toNat : Int) == 113) = true := by simp; omega
      rw [decide_eq_true h2]
      clear e1 e2 h1 h2
      go_enter Tryd.func22, Tryd.ntmps22
      go_wp2_with fail
      go_ret
      exact ⟨rfl, (Below.refl _ _).alloc (Nat.le_refl _) _⟩
    · have hc : ((k.toNat : Int) == 113) = false := by simp; omega
      rw [decide_eq_false h2]
      clear e1 e2 h1 h2
      go_enter Tryd.func22, Tryd.ntmps22
      go_wp2_with fail
      go_ret
      exact ⟨rfl, (Below.refl _ _).alloc (Nat.le_refl _) _⟩

theorem TokOff.get {w : World} {g off : Nat} {l : List Tok} (h : TokOff w (some ⟨g, off, none⟩) l) {i : Nat} {q : Tok} (hq : l[i]? = some q) : g < w.heap.size ∧ w.cell? ⟨g, off + i * 4, none⟩ = some (.int .u8 (q.kind.toNat : Nat)) ∧ w.cell? ⟨g, off + i * 4 + 1, none⟩ = some (.string ⟨q.text.toArray⟩) ∧ w.cell? ⟨g, off + i * 4 + 2, none⟩ = some (.int .i64 q.lo) ∧ w.cell? ⟨g, off + i * 4 + 3, none⟩ = some (.int .i64 q.hi) := by
  rcases h with h | ⟨g', off', hp, hg, hc⟩
  · rw [h] at hq; cases hq
  · cases hp; exact ⟨hg, hc i q hq⟩

theorem foldB_length (l : Bs) : (foldB l).length = l.length := by simp [foldB]
theorem takes_three (t u v : Tok) (r : List Tok) : takes (t :: u :: v :: r) = if (u.kind == 111 && u.text == [46]) && nm v then (foldB t.text ++ 46 :: foldB v.text, 3) else (foldB t.text, 1) := rfl
theorem takes_short1 {t u v : Tok} {r : List Tok} (h : (u.kind == 111) = false ∨ (u.text == [46]) = false ∨ nm v = false) : takes (t :: u :: v :: r) = (foldB t.text, 1) := by
  rw [takes_three]
  rcases h with h | h | h <;> simp [h]
theorem takes_long {t u v : Tok} {r : List Tok} (h1 : (u.kind == 111) = true) (h2 : (u.text == [46]) = true) (h3 : nm v = true) : takes (t :: u :: v :: r) = (foldB t.text ++ 46 :: foldB v.text, 3) := by
  rw [takes_three, h1, h2, h3]; rfl
theorem fold_bs (l : Bs) (w : World) (hs : l.length ≤ 2000) :
    Calls Tryd.prog 23 #[.string ⟨l.toArray⟩] w fun e w' => e = .returned (.string ⟨(foldB l).toArray⟩) ∧ Below w.heap.size w w' := by
  have := fold_any ⟨l.toArray⟩ w (by rw [str_size]; exact hs)
  rw [show (bytes ⟨l.toArray⟩).map low = foldB l by simp [bytes, foldB]] at this
  exact this
theorem takeB_no {t : Tok} {r : List Tok} (h : nm t = false) : takeB (t :: r) = ([], 0) := by
  unfold takeB
  rw [show nmHead (t :: r) = nm t from rfl, h]; rfl
theorem takeB_yes {t : Tok} {r : List Tok} {x : Bs} {k : Nat} (h : nm t = true) (ht : takes (t :: r) = (x, k)) : takeB (t :: r) = if goodB x then (x, k) else ([], 0) := by
  unfold takeB
  rw [show nmHead (t :: r) = nm t from rfl, h, ht, Bool.true_and]

/-- What Take leaves. -/
def Took (w : World) (q : Bs × Nat) (e : Ending) (w' : World) : Prop := e = .returned (.tuple #[.string ⟨q.1.toArray⟩, .int .i64 q.2]) ∧ Below w.heap.size w w'

set_option maxHeartbeats 4000000 in
theorem take_any (p : Option Addr) (T : List Tok) (n c : Nat) (m : Int) (w : World) (hT : T.length = n) (hn : n ≤ 100000) (hA : TokOff w p T) (hx : ∀ q ∈ T, q.text.length ≤ 2000) (hm : w.cell? ⟨1, 0, none⟩ = some (.int .i64 m)) :
    Calls Tryd.prog 13 #[.slice p n c] w (Took w (takeB T)) := by
  have HM := Lib.hid hm
  have HW0 := Lib.hid (World.block_lt_of_cell? w ⟨1, 0, none⟩ hm)
  have HG := Lib.hid (fun (S : ByteArray) (W : World) h1 h2 => good_any S m W h1 h2)
  have HF := Lib.hid (fun (S : Bs) (W : World) h1 => fold_bs S W h1)
  have HN := Lib.hid (fun k t lo hi W => named_any k t lo hi W)
  cases T with
  | nil =>
    obtain rfl : 0 = n := hT
    clear hA hx hm hn
    go_enter Tryd.func13, Tryd.ntmps13
    go_wp2_with fail
    go_ret2
    exact ⟨rfl, Below.refl _ _⟩
  | cons t r =>
    obtain ⟨g, off, rfl, hg, hc⟩ : ∃ g off, p = some ⟨g, off, none⟩ ∧ g < w.heap.size ∧ TokOff w (some ⟨g, off, none⟩) (t :: r) := by
      have hA' := hA
      rcases hA with h | ⟨g, off, hp, hg, _⟩
      · cases h
      · exact ⟨g, off, hp, hg, by rw [← hp]; exact hA'⟩
    obtain ⟨_, a0, a1, a2, a3⟩ := hc.get (i := 0) rfl
    simp only [Nat.zero_mul, Nat.add_zero] at a0 a1 a2 a3
    have hn1 : 0 < n := by rw [← hT]; exact Nat.succ_pos _
    have hn1' : (1 : Int) ≤ n := by omega
    have HTX := Lib.hid hx
    have HCC := Lib.hid hc
    have HTL := Lib.hid hT
    clear hA hx hm hT hc
    cases hnt : nm t with
    | false =>
      rw [takeB_no hnt]
      have HNT := Lib.hid hnt
      clear hnt
      go_enter Tryd.func13, Tryd.ntmps13
      go_wp2_with fail
      refine (HN.out t.kind t.text t.lo t.hi w).mono ?_; rintro e w1 ⟨rfl, hb1⟩
      rw [show (t.kind == 119 || t.kind == 113) = false from HNT.out]
      have HB1 := Lib.hid hb1
      clear hb1
      go_wp2_with fail
      go_ret2
      exact ⟨rfl, HB1.out⟩
    | true =>
      have HNT := Lib.hid hnt
      clear hnt
      have htx : t.text.length ≤ 2000 := HTX.out t (List.mem_cons_self ..)
      go_enter Tryd.func13, Tryd.ntmps13
      go_wp2_with fail
      refine (HN.out t.kind t.text t.lo t.hi w).mono ?_; rintro e w1 ⟨rfl, hb1⟩
      rw [show (t.kind == 119 || t.kind == 113) = true from HNT.out]
      have HB1 := Lib.hid hb1
      have a1 := (hb1.cell (p := ⟨g, off + 1, none⟩) hg).trans a1
      clear hb1 a0 a2 a3
      go_wp2_with fail
      refine (HF.out t.text w1 htx).mono ?_; rintro e w2 ⟨rfl, hb2⟩
      have HB2 := Lib.hid (HB1.out.step hb2 HB1.out.size)
      clear hb2 HB1
      obtain ⟨X, hX⟩ : ∃ X : ByteArray, X = ⟨(foldB t.text).toArray⟩ := ⟨_, rfl⟩
      rw [← hX]
      have hXs : X.size ≤ 2000 := by rw [hX, str_size, foldB_length]; exact htx
      have HXE := Lib.hid hX
      clear htx hX
      rcases r with _ | ⟨u, _ | ⟨v, r⟩⟩
      · obtain rfl : 1 = n := HTL.out
        have HTK := Lib.hid (show takes (t :: []) = (foldB t.text, 1) from rfl)
        clear HCC
        have HXX := Lib.hid HXE.out; have HBX := Lib.hid (show bytes X = foldB t.text by rw [HXE.out])
        clear HXE
        have HME := Lib.hid ((HB2.out.cell (p := ⟨1, 0, none⟩) HW0.out).trans HM.out)
        go_wp2_with fail
        refine (HG.out X w2 (by omega) HME.out).mono ?_; rintro e w9 ⟨rfl, hb9⟩
        have HB9 := Lib.hid (HB2.out.step (below_drew hb9) HB2.out.size)
        have HRR := Lib.hid (takeB_yes HNT.out HTK.out)
        rw [HBX.out]
        clear hb9 HME
        cases hgd : goodB (foldB t.text) with
        | true =>
          rw [hgd, if_pos rfl] at HRR
          clear hgd
          go_wp2_with fail
          go_ret2
          rw [HRR.out]
          exact ⟨by rw [← HXX.out]; rfl, HB9.out⟩
        | false =>
          rw [hgd, if_neg (by simp)] at HRR
          clear hgd
          go_wp2_with fail
          go_ret2
          rw [HRR.out]
          exact ⟨rfl, HB9.out⟩
      · obtain rfl : 2 = n := HTL.out
        have HTK := Lib.hid (show takes (t :: [u]) = (foldB t.text, 1) from rfl)
        clear HCC
        have HXX := Lib.hid HXE.out; have HBX := Lib.hid (show bytes X = foldB t.text by rw [HXE.out])
        clear HXE
        have HME := Lib.hid ((HB2.out.cell (p := ⟨1, 0, none⟩) HW0.out).trans HM.out)
        go_wp2_with fail
        refine (HG.out X w2 (by omega) HME.out).mono ?_; rintro e w9 ⟨rfl, hb9⟩
        have HB9 := Lib.hid (HB2.out.step (below_drew hb9) HB2.out.size)
        have HRR := Lib.hid (takeB_yes HNT.out HTK.out)
        rw [HBX.out]
        clear hb9 HME
        cases hgd : goodB (foldB t.text) with
        | true =>
          rw [hgd, if_pos rfl] at HRR
          clear hgd
          go_wp2_with fail
          go_ret2
          rw [HRR.out]
          exact ⟨by rw [← HXX.out]; rfl, HB9.out⟩
        | false =>
          rw [hgd, if_neg (by simp)] at HRR
          clear hgd
          go_wp2_with fail
          go_ret2
          rw [HRR.out]
          exact ⟨rfl, HB9.out⟩
      · have hn3 : 3 ≤ n := by rw [← HTL.out]; simp
        have hn3' : (3 : Int) ≤ n := by omega
        have hc2 := HCC.out.step HB2.out
        obtain ⟨_, b0, b1, b2, b3⟩ := hc2.get (i := 1) rfl
        obtain ⟨_, d0, d1, d2, d3⟩ := hc2.get (i := 2) rfl
        simp only [Nat.one_mul, Nat.reduceMul] at b0 b1 b2 b3 d0 d1 d2 d3
        have hg2 : g < w2.heap.size := Nat.lt_of_lt_of_le hg HB2.out.size
        clear hc2 b2 b3
        have HKU := Lib.hid (show (u.kind == 111) = decide (u.kind.toNat = 111) by rw [Bool.eq_iff_iff]; simp [← UInt8.toNat_inj])
        by_cases k1 : u.kind.toNat = 111
        · have k2 : ((u.kind.toNat : Int) == 111) = true := by simp; omega
          have HK1 := Lib.hid k1
          clear k1
          cases k3 : (u.text == [46]) with
          | false =>
            have HTK := Lib.hid (show takes (t :: u :: v :: r) = (foldB t.text, 1) from takes_short1 (.inr (.inl k3)))
            clear HCC HKU HK1
            have HXX := Lib.hid HXE.out; have HBX := Lib.hid (show bytes X = foldB t.text by rw [HXE.out])
            clear HXE
            have HME := Lib.hid ((HB2.out.cell (p := ⟨1, 0, none⟩) HW0.out).trans HM.out)
            go_wp2_with fail
            refine (HG.out X w2 (by omega) HME.out).mono ?_; rintro e w9 ⟨rfl, hb9⟩
            have HB9 := Lib.hid (HB2.out.step (below_drew hb9) HB2.out.size)
            have HRR := Lib.hid (takeB_yes HNT.out HTK.out)
            rw [HBX.out]
            clear hb9 HME
            cases hgd : goodB (foldB t.text) with
            | true =>
              rw [hgd, if_pos rfl] at HRR
              clear hgd
              go_wp2_with fail
              go_ret2
              rw [HRR.out]
              exact ⟨by rw [← HXX.out]; rfl, HB9.out⟩
            | false =>
              rw [hgd, if_neg (by simp)] at HRR
              clear hgd
              go_wp2_with fail
              go_ret2
              rw [HRR.out]
              exact ⟨rfl, HB9.out⟩
          | true =>
            go_wp2_with fail
            refine (HN.out v.kind v.text v.lo v.hi w2).mono ?_; rintro e w3 ⟨rfl, hb3⟩
            have HB3 := Lib.hid (HB2.out.step hb3 HB2.out.size)
            have d1 := (hb3.cell (p := ⟨g, off + 8 + 1, none⟩) hg2).trans d1
            clear hb3 b0 b1 d0 d2 d3
            cases k4 : (v.kind == 119 || v.kind == 113) with
            | false =>
              have HTK := Lib.hid (show takes (t :: u :: v :: r) = (foldB t.text, 1) from takes_short1 (.inr (.inr k4)))
              clear HCC HKU HK1 k4
              have HXX := Lib.hid HXE.out; have HBX := Lib.hid (show bytes X = foldB t.text by rw [HXE.out])
              clear HXE
              have HME := Lib.hid ((HB3.out.cell (p := ⟨1, 0, none⟩) HW0.out).trans HM.out)
              go_wp2_with fail
              refine (HG.out X w3 (by omega) HME.out).mono ?_; rintro e w9 ⟨rfl, hb9⟩
              have HB9 := Lib.hid (HB3.out.step (below_drew hb9) HB3.out.size)
              have HRR := Lib.hid (takeB_yes HNT.out HTK.out)
              rw [HBX.out]
              clear hb9 HME
              cases hgd : goodB (foldB t.text) with
              | true =>
                rw [hgd, if_pos rfl] at HRR
                clear hgd
                go_wp2_with fail
                go_ret2
                rw [HRR.out]
                exact ⟨by rw [← HXX.out]; rfl, HB9.out⟩
              | false =>
                rw [hgd, if_neg (by simp)] at HRR
                clear hgd
                go_wp2_with fail
                go_ret2
                rw [HRR.out]
                exact ⟨rfl, HB9.out⟩
            | true =>
              have HTK := Lib.hid (show takes (t :: u :: v :: r) = (foldB t.text ++ 46 :: foldB v.text, 3) from takes_long (by rw [HKU.out, decide_eq_true HK1.out]) k3 k4)
              have hvx : v.text.length ≤ 2000 := HTX.out v (by simp)
              clear HCC HKU HK1 k4
              go_wp2_with fail
              refine (HF.out v.text w3 hvx).mono ?_; rintro e w4 ⟨rfl, hb4⟩
              have HB4 := Lib.hid (HB3.out.step hb4 HB3.out.size)
              obtain ⟨Y, hY⟩ : ∃ Y : ByteArray, Y = ⟨(foldB v.text).toArray⟩ := ⟨_, rfl⟩
              rw [← hY]
              have hYs : Y.size ≤ 2000 := by rw [hY, str_size, foldB_length]; exact hvx
              have hXY : X ++ { data := #[46] } ++ Y = ⟨(foldB t.text ++ 46 :: foldB v.text).toArray⟩ := by
                rw [HXE.out, hY, show ({ data := #[46] } : ByteArray) = ⟨[46].toArray⟩ from rfl, str_cat, str_cat]; simp
              have HXX := Lib.hid hXY
              have HBX := Lib.hid (show bytes (X ++ { data := #[46] } ++ Y) = foldB t.text ++ 46 :: foldB v.text by rw [hXY])
              clear hb4 HXE hY hXY hvx
              have HME := Lib.hid ((HB4.out.cell (p := ⟨1, 0, none⟩) HW0.out).trans HM.out)
              go_wp2_with fail
              refine (HG.out _ w4 (by simp only [ByteArray.size_append]; show X.size + 1 + Y.size ≤ 100000; omega) HME.out).mono ?_; rintro e w9 ⟨rfl, hb9⟩
              have HB9 := Lib.hid (HB4.out.step (below_drew hb9) HB4.out.size)
              have HRR := Lib.hid (takeB_yes HNT.out HTK.out)
              rw [HBX.out]
              clear hb9 HME
              cases hgd : goodB (foldB t.text ++ 46 :: foldB v.text) with
              | true =>
                rw [hgd, if_pos rfl] at HRR
                clear hgd
                go_wp2_with fail
                go_ret2
                rw [HRR.out]
                exact ⟨by rw [← HXX.out]; rfl, HB9.out⟩
              | false =>
                rw [hgd, if_neg (by simp)] at HRR
                clear hgd
                go_wp2_with fail
                go_ret2
                rw [HRR.out]
                exact ⟨rfl, HB9.out⟩
        · have k2 : ((u.kind.toNat : Int) == 111) = false := by simp; omega
          have HTK := Lib.hid (show takes (t :: u :: v :: r) = (foldB t.text, 1) from takes_short1 (.inl (by rw [HKU.out, decide_eq_false k1])))
          clear HCC HKU k1
          have HXX := Lib.hid HXE.out; have HBX := Lib.hid (show bytes X = foldB t.text by rw [HXE.out])
          clear HXE
          have HME := Lib.hid ((HB2.out.cell (p := ⟨1, 0, none⟩) HW0.out).trans HM.out)
          go_wp2_with fail
          refine (HG.out X w2 (by omega) HME.out).mono ?_; rintro e w9 ⟨rfl, hb9⟩
          have HB9 := Lib.hid (HB2.out.step (below_drew hb9) HB2.out.size)
          have HRR := Lib.hid (takeB_yes HNT.out HTK.out)
          rw [HBX.out]
          clear hb9 HME
          cases hgd : goodB (foldB t.text) with
          | true =>
            rw [hgd, if_pos rfl] at HRR
            clear hgd
            go_wp2_with fail
            go_ret2
            rw [HRR.out]
            exact ⟨by rw [← HXX.out]; rfl, HB9.out⟩
          | false =>
            rw [hgd, if_neg (by simp)] at HRR
            clear hgd
            go_wp2_with fail
            go_ret2
            rw [HRR.out]
            exact ⟨rfl, HB9.out⟩
end Go.Proofs.YtpijolcklmdjbaaDoor
