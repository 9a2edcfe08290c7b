/- Contracts and mathematics: QRSet, QRBack. -/
import Derived.Test.YtgopajddloeclaaDoorZ35
import Derived.Deep.DeepCutAuto
import Derived.Test.YtgopajddloeclaaDoorZ21
namespace Go.Proofs.YtgopajddloeclaaDoor
open Go.RowKit Go.Lib Go.WideShapes

theorem TurnedR.off {w w1 : World} {p q : Nat} (i : Nat) (v : Value) (hq : w.heap.size ≤ q) (h : TurnedR w w1 p) : TurnedR w (w1.setCell ⟨q, i, none⟩ v) p :=
  ⟨h.os, h.tape, h.output, by rw [World.size_setCell]; exact h.size, fun k hk hp => (Below.heap_setCell _ _ _ _ (show k ≠ q by omega)).trans (h.block k hk hp)⟩
/-- A command that is not written yet. -/
def CmdCell (w : World) (q : Nat) : Prop := w.heap[q]? = some (.cells #[.int .u8 0, .string { data := #[] }, .string { data := #[] }] 31 (0, 0))
theorem CmdCell.cell {w : World} {q : Nat} (h : CmdCell w q) : (w.cell? ⟨q, 0, none⟩ = some (.int .u8 0) ∧ w.cell? ⟨q, 1, none⟩ = some (.string { data := #[] }) ∧ w.cell? ⟨q, 2, none⟩ = some (.string { data := #[] })) ∧ (w.frozen? ⟨q, 0, none⟩ = false ∧ w.frozen? ⟨q, 1, none⟩ = false ∧ w.frozen? ⟨q, 2, none⟩ = false) := by
  have f : ∀ j, w.frozen? ⟨q, j, none⟩ = false := fun j => by unfold CmdCell at h; simp [World.frozen?, h]
  refine ⟨⟨?_, ?_, ?_⟩, f 0, f 1, f 2⟩ <;> rw [cell_of_row w q _ _ _ (0, 0) h] <;> rfl
theorem setRow_kind (L : List Tok) : (setRow L).1 = 108 ∨ (setRow L).1 = 115 := by
  unfold setRow
  split
  · exact .inl rfl
  · split <;> exact .inr rfl
theorem toB_drop (L : List Tok) (k : Nat) : toB (L.drop k) = (L[k]?.map assignsB).getD false := by
  rw [← List.head?_drop]
  cases L.drop k <;> rfl
theorem toR_drop {L : List Tok} {k : Nat} (h : toB (L.drop k) = true) : toR (L.drop k) = L.drop (k + 1) := by
  unfold toR
  rw [if_pos h, List.drop_drop]
theorem set_none {L : List Tok} (h : (takeB (setRow L).2).2 = 0 ∨ toB ((setRow L).2.drop (takeB (setRow L).2).2) = false) : orNone (setC L) = noCmd := by
  unfold setC
  rw [if_pos (by rw [toB_drop] at h; exact h.imp id .inr)]
  rfl
theorem set_some {L : List Tok} (h0 : ¬ (takeB (setRow L).2).2 = 0) (h : toB ((setRow L).2.drop (takeB (setRow L).2).2) = true) : orNone (setC L) = if aloneW ((setRow L).2.drop ((takeB (setRow L).2).2 + 1)) w_default then (if (setRow L).1 == 115 then ⟨114, (takeB (setRow L).2).1, []⟩ else noCmd) else (if (valueB ((setRow L).2.drop ((takeB (setRow L).2).2 + 1))).2 then ⟨(setRow L).1, (takeB (setRow L).2).1, (valueB ((setRow L).2.drop ((takeB (setRow L).2).2 + 1))).1⟩ else noCmd) := by
  unfold setC
  rw [if_neg]
  · split <;> rfl
  · rintro (h1 | h1 | h1)
    · exact h0 h1
    · rw [toB_drop, h1, List.getElem?_eq_none (Nat.le_refl _)] at h; cases h
    · rw [toB_drop, h1] at h; cases h
set_option maxRecDepth 100000 in
set_option maxHeartbeats 16000000 in
theorem rset_any (p : Nat) (L : List Tok) (w : World) (h : RestAt w p L) :
    Calls Tryd.prog 47 #[.pointer (some ⟨p, 0, none⟩)] w (COut w p (orNone (setC L))) := by
  obtain ⟨W0, hW0⟩ : ∃ x, x = w.alloc (.cells #[.int .u8 0, .string { data := #[] }, .string { data := #[] }] 31) := ⟨_, rfl⟩
  have hb0 : Below w.heap.size w W0 := by rw [hW0]; exact (Below.refl _ _).alloc (Nat.le_refl _) _
  have HE := Lib.hid hW0
  have HCM := Lib.hid (show CmdCell W0 w.heap.size from by rw [hW0]; exact heap_alloc_new w _)
  have HZ := Lib.hid (show p < w.heap.size ∧ W0.heap.size = w.heap.size + 1 from ⟨h.lt, by rw [hW0]; simp⟩)
  have HT0 := Lib.hid (show TurnedR w W0 p from TurnedR.below hb0)
  have HR0 := Lib.hid (h.grown hb0)
  have HWL := Lib.hid (rword_any p { data := #[108, 111, 99, 97, 108] } L W0 HR0.out)
  rw [show bytes { data := #[108, 111, 99, 97, 108] } = w_local from rfl] at HWL
  obtain ⟨C, hC⟩ : ∃ C, C = orNone (setC L) := ⟨_, rfl⟩
  have HC := Lib.hid hC
  rw [← hC]
  obtain ⟨kd, hkd⟩ : ∃ z, z = (setRow L).1 := ⟨_, rfl⟩
  obtain ⟨L2, hL2⟩ : ∃ z, z = (setRow L).2 := ⟨_, rfl⟩
  have HKD := Lib.hid hkd; have HL2 := Lib.hid hL2
  clear h hb0 hW0 hC hkd hL2
  go_enter Tryd.func47, Tryd.ntmps47
  go_upto_if 8 with (fail)
  rw [← HE.out]
  refine HWL.out.mono ?_; rintro e w1 ⟨rfl, hR, hT⟩
  go_upto_if 8 with (fail)
  go_cut [3] (fun kv wx => kv = .int .u8 (kd.toNat : Nat) ∧ RestAt wx p L2 ∧ TurnedR W0 wx p)
  case first =>
    cases hb : beginsW L w_local with
    | true =>
      have HKL := Lib.hid (show kd = 108 ∧ RestAt w1 p L2 from by
        have e : setRow L = (108, L.drop 1) := by unfold setRow; rw [if_pos hb]
        unfold wordR at hR
        rw [if_pos hb] at hR
        exact ⟨by rw [HKD.out, e], by rw [HL2.out, e]; exact hR⟩)
      have HT := Lib.hid hT
      clear hR hT hb
      go_wp2_with fail
      go_meet
      exact ⟨by rw [HKL.out.1]; rfl, HKL.out.2, HT.out⟩
    | false =>
      have HR := Lib.hid (show RestAt w1 p L from by unfold wordR at hR; rw [if_neg (by rw [hb]; decide)] at hR; exact hR)
      have HT := Lib.hid hT
      have HSR := Lib.hid (show setRow L = if ((beginsW L w_session && decide (1 < L.length)) && (L[1]?.map nm).getD false) && !beginsW (L.drop 1) w_to then (115, L.drop 1) else (115, L) from by
        unfold setRow
        rw [if_neg (by rw [hb]; decide)])
      have HNO := Lib.hid (show (((beginsW L w_session && decide (1 < L.length)) && (L[1]?.map nm).getD false) && !beginsW (L.drop 1) w_to) = false → kd = 115 ∧ RestAt w1 p L2 from fun h => by
        rw [h, if_neg (by decide)] at HSR
        exact ⟨by rw [HKD.out, HSR.out], by rw [HL2.out, HSR.out]; exact HR.out⟩)
      have HYES := Lib.hid (show (((beginsW L w_session && decide (1 < L.length)) && (L[1]?.map nm).getD false) && !beginsW (L.drop 1) w_to) = true → kd = 115 ∧ L2 = L.drop 1 ∧ beginsW L w_session = true from fun h => by
        have hs : beginsW L w_session = true := by
          cases hq : beginsW L w_session with
          | true => rfl
          | false => rw [hq] at h; simp at h
        rw [h, if_pos rfl] at HSR
        exact ⟨by rw [HKD.out, HSR.out], by rw [HL2.out, HSR.out], hs⟩)
      have HWS := Lib.hid (rword_any p { data := #[115, 101, 115, 115, 105, 111, 110] } L w1 HR.out)
      rw [show bytes { data := #[115, 101, 115, 115, 105, 111, 110] } = w_session from rfl] at HWS
      obtain ⟨a, c, hC, hc, h9, hn, hTW, hx⟩ := HR.out
      have c0 := hC.cell
      clear hR hT hb
      cases L with
      | nil =>
        obtain ⟨hk, hl⟩ := HNO.out rfl
        have HKL := Lib.hid hk; have HLL := Lib.hid hl
        clear hC hTW hx hk hl HNO HYES
        go_wp2_with fail
        go_meet
        exact ⟨by rw [HKL.out]; rfl, HLL.out, HT.out⟩
      | cons t r =>
        obtain ⟨g, off, rfl, hg, hT'⟩ := hTW.first
        obtain ⟨_, a0, a1, _⟩ := hT'.get (i := 0) rfl
        rw [Nat.zero_mul, Nat.add_zero] at a0 a1
        cases r with
        | nil =>
          obtain ⟨hk, hl⟩ := HNO.out (by simp)
          have HKL := Lib.hid hk; have HLL := Lib.hid hl
          have hl1 : ([t].length : Nat) = 1 := rfl
          rw [hl1] at c0
          clear hC hTW hT' hx hk hl HNO HYES a0 a1
          go_wp2_with fail
          go_meet
          exact ⟨by rw [HKL.out]; rfl, HLL.out, HT.out⟩
        | cons u r =>
          obtain ⟨_, b0, b1, _⟩ := hT'.get (i := 1) rfl
          rw [Nat.one_mul] at b0 b1
          obtain ⟨n, hnn⟩ : ∃ n, n = (t :: u :: r).length := ⟨_, rfl⟩
          have hn2 : (1 : Int) < n := by rw [hnn]; simp; omega
          have hn0 : (n : Int) ≤ c := by omega
          have hn1 : (2 : Int) ≤ c := by omega
          rw [← hnn] at c0
          have HV := Lib.hid (show (((beginsW (t :: u :: r) w_session && decide (1 < (t :: u :: r).length)) && ((t :: u :: r)[1]?.map nm).getD false) && !beginsW ((t :: u :: r).drop 1) w_to) = (((((t.kind.toNat : Int) == 119) && (t.text == w_session)) && (((u.kind.toNat : Int) == 119) || ((u.kind.toNat : Int) == 113))) && !(((u.kind.toNat : Int) == 119) && (u.text == w_to))) from by
            rw [show decide (1 < (t :: u :: r).length) = true from by simp, Bool.and_true]
            show (((t.kind == 119 && t.text == w_session) && (u.kind == 119 || u.kind == 113)) && !(u.kind == 119 && u.text == w_to)) = _
            rw [kind_bool, kind_bool u, kind_bool u]; rfl)
          obtain ⟨XT, hXT⟩ : ∃ z : ByteArray, z = ⟨t.text.toArray⟩ := ⟨_, rfl⟩
          have hXL : t.text = XT.toList := by rw [hXT]; exact (str_list _).symm
          obtain ⟨UT, hUT⟩ : ∃ z : ByteArray, z = ⟨u.text.toArray⟩ := ⟨_, rfl⟩
          have hUL : u.text = UT.toList := by rw [hUT]; exact (str_list _).symm
          obtain ⟨tk, htk⟩ : ∃ z : Int, z = (t.kind.toNat : Nat) := ⟨_, rfl⟩
          obtain ⟨uk, huk⟩ : ∃ z : Int, z = (u.kind.toNat : Nat) := ⟨_, rfl⟩
          rw [← htk] at a0
          rw [← huk] at b0
          rw [← hXT] at a1
          rw [← hUT] at b1
          have HNO := Lib.hid (show (((tk == 119 && XT.toList == [115, 101, 115, 115, 105, 111, 110]) && (uk == 119 || uk == 113)) && !(uk == 119 && UT.toList == [116, 111])) = false → kd = 115 ∧ RestAt w1 p L2 from fun h => HNO.out (HV.out.trans (by rw [← htk, ← huk, hXL, hUL]; exact h)))
          have HYES := Lib.hid (show (((tk == 119 && XT.toList == [115, 101, 115, 115, 105, 111, 110]) && (uk == 119 || uk == 113)) && !(uk == 119 && UT.toList == [116, 111])) = true → kd = 115 ∧ L2 = (t :: u :: r).drop 1 ∧ beginsW (t :: u :: r) w_session = true from fun h => HYES.out (HV.out.trans (by rw [← htk, ← huk, hXL, hUL]; exact h)))
          clear HV hXT hXL hUT hUL htk huk hC hTW hT' hx hnn hc hn
          cases p1 : (tk == 119) with
          | false =>
            obtain ⟨hk, hl⟩ := HNO.out (by simp [*])
            have HKL := Lib.hid hk; have HLL := Lib.hid hl
            clear hk hl HNO HYES
            go_wp2_with fail
            go_meet
            exact ⟨by rw [HKL.out]; rfl, HLL.out, HT.out⟩
          | true =>
            cases p2 : (XT.toList == [115, 101, 115, 115, 105, 111, 110]) with
            | false =>
              obtain ⟨hk, hl⟩ := HNO.out (by simp [*])
              have HKL := Lib.hid hk; have HLL := Lib.hid hl
              clear hk hl HNO HYES
              go_wp2_with fail
              go_meet
              exact ⟨by rw [HKL.out]; rfl, HLL.out, HT.out⟩
            | true =>
              cases p3 : (uk == 119) with
              | true =>
                have p5 : (uk == 113) = false := by have := eq_of_beq p3; rw [this]; rfl
                cases p4 : (UT.toList == [116, 111]) with
                | true =>
                  obtain ⟨hk, hl⟩ := HNO.out (by simp [*])
                  have HKL := Lib.hid hk; have HLL := Lib.hid hl
                  clear hk hl HNO HYES
                  go_wp2_with fail
                  go_meet
                  exact ⟨by rw [HKL.out]; rfl, HLL.out, HT.out⟩
                | false =>
                  obtain ⟨hk, hl, hs⟩ := HYES.out (by simp [*])
                  have HKL := Lib.hid hk; have HLL := Lib.hid hl; have HSS := Lib.hid hs
                  clear hk hl hs HNO HYES
                  go_wp2_with fail
                  refine HWS.out.mono ?_; rintro e w2 ⟨rfl, hR2, hT2⟩
                  have HR2 := Lib.hid (show RestAt w2 p L2 from by unfold wordR at hR2; rw [if_pos HSS.out] at hR2; rw [HLL.out]; exact hR2)
                  have HT2 := Lib.hid (HT.out.trans hT2)
                  clear hR2 hT2
                  go_wp2_with fail
                  go_meet
                  exact ⟨by rw [HKL.out]; rfl, HR2.out, HT2.out⟩
              | false =>
                cases p5 : (uk == 113) with
                | true =>
                  obtain ⟨hk, hl, hs⟩ := HYES.out (by simp [*])
                  have HKL := Lib.hid hk; have HLL := Lib.hid hl; have HSS := Lib.hid hs
                  clear hk hl hs HNO HYES
                  go_wp2_with fail
                  refine HWS.out.mono ?_; rintro e w2 ⟨rfl, hR2, hT2⟩
                  have HR2 := Lib.hid (show RestAt w2 p L2 from by unfold wordR at hR2; rw [if_pos HSS.out] at hR2; rw [HLL.out]; exact hR2)
                  have HT2 := Lib.hid (HT.out.trans hT2)
                  clear hR2 hT2
                  go_wp2_with fail
                  go_meet
                  exact ⟨by rw [HKL.out]; rfl, HR2.out, HT2.out⟩
                | false =>
                  obtain ⟨hk, hl⟩ := HNO.out (by simp [*])
                  have HKL := Lib.hid hk; have HLL := Lib.hid hl
                  clear hk hl HNO HYES
                  go_wp2_with fail
                  go_meet
                  exact ⟨by rw [HKL.out]; rfl, HLL.out, HT.out⟩
  case rest =>
    obtain ⟨rfl, hR, hT⟩ := hcut
    have HT := Lib.hid hT
    have HNM := Lib.hid (rname_any p L2 wc hR)
    have HTC := Lib.hid (takeB_cases L2)
    obtain ⟨kz, hkz⟩ : ∃ z : Int, z = (kd.toNat : Nat) := ⟨_, rfl⟩
    rw [← hkz]
    have HKZ := Lib.hid hkz
    obtain ⟨q, hq⟩ : ∃ q, q = takeB L2 := ⟨_, rfl⟩
    have HQ := Lib.hid hq
    rw [← hq] at HNM HTC
    obtain ⟨x, k⟩ := q
    obtain ⟨XT, hXT⟩ : ∃ z : ByteArray, z = ⟨x.toArray⟩ := ⟨_, rfl⟩
    have HXT := Lib.hid hXT
    rw [← hXT] at HNM
    have HXL := Lib.hid (show XT.toList = x from by rw [hXT]; exact str_list _)
    have HW := Lib.hid (show (kd = 108 ∨ kd = 115) from by rw [HKD.out]; exact setRow_kind L)
    have HN := Lib.hid (show (k = 0 ∨ toB (L2.drop k) = false) → C = noCmd from fun h => by
      have e2 := HQ.out
      rw [HL2.out] at h e2
      rw [HC.out]
      exact set_none (by rw [← e2]; exact h))
    have HS := Lib.hid (show ¬ k = 0 → toB (L2.drop k) = true → C = if aloneW (L2.drop (k + 1)) w_default then (if kd == 115 then ⟨114, x, []⟩ else noCmd) else (if (valueB (L2.drop (k + 1))).2 then ⟨kd, x, (valueB (L2.drop (k + 1))).1⟩ else noCmd) from fun h0 h1 => by
      have e2 := HQ.out
      rw [HL2.out] at e2 h1
      rw [HC.out, HL2.out, HKD.out]
      have := set_some (L := L) (by rw [← e2]; exact h0) (by rw [← e2]; exact h1)
      rw [← e2] at this
      exact this)
    clear hR hT hq hkz hXT HKD HL2 HC HWL HR0 HQ
    go_wp2_with fail
    refine HNM.out.mono ?_; rintro e w3 ⟨rfl, hR3, hT3⟩
    have HT3 := Lib.hid (HT.out.trans hT3)
    have HR3 := Lib.hid (show RestAt w3 p (L2.drop k) from hR3)
    clear hR3 hT3 HNM HT
    cases hx : (x == []) with
    | true =>
      have ex : x = [] := by simpa using hx
      have q1 : (XT.toList == []) = true := by rw [HXL.out, ex]; rfl
      have q2 : XT.toList.isEmpty = true := by rw [HXL.out, ex]; rfl
      have HCN := Lib.hid (show C = noCmd from HN.out (.inl (by
        rcases HTC.out with h | ⟨y, n, h, hg, h0⟩
        · cases h; rfl
        · cases h; rw [ex] at hg; exact absurd hg (by decide))))
      have hcm : CmdCell w3 w.heap.size := (HT3.out.block w.heap.size (by rw [HZ.out.2]; omega) (by have := HZ.out.1; omega)).trans HCM.out
      obtain ⟨⟨k0, k1, k2⟩, ⟨f0, f1, f2⟩⟩ := hcm.cell
      have hlt : w.heap.size < w3.heap.size := (Array.getElem?_eq_some_iff.1 hcm).1
      clear hcm
      clear hx ex
      go_wp2_with fail
      simp [bodyPost, results, Tryd.results47, go_sem, k0, k1, k2]
      refine ⟨by rw [HCN.out]; first | rfl | (rw [HXT.out]; rfl) | (rw [HKZ.out, HXT.out, HVT.out]; rfl), ?_⟩
      exact (((HT0.out.trans HT3.out).off _ _ (Nat.le_refl _)).off _ _ (Nat.le_refl _)).off _ _ (Nat.le_refl _)
    | false =>
      have q1 : (XT.toList == []) = false := by rw [HXL.out]; exact hx
      have q2 : XT.toList.isEmpty = false := by rw [HXL.out]; cases x with
        | nil => cases hx
        | cons _ _ => rfl
      have HK0 := Lib.hid (show ¬ k = 0 from by
        rcases HTC.out with h | ⟨y, n, h, hg, h0⟩
        · cases h; cases hx
        · cases h; exact h0)
      have HTO := Lib.hid (rto_any p (L2.drop k) w3 HR3.out)
      clear hx
      go_wp2_with fail
      refine HTO.out.mono ?_; rintro e w4 ⟨rfl, hR4, hT4⟩
      have HT4 := Lib.hid (HT3.out.trans hT4)
      cases hb : toB (L2.drop k) with
      | false =>
        have HCN := Lib.hid (show C = noCmd from HN.out (.inr hb))
        have hcm : CmdCell w4 w.heap.size := (HT4.out.block w.heap.size (by rw [HZ.out.2]; omega) (by have := HZ.out.1; omega)).trans HCM.out
        obtain ⟨⟨k0, k1, k2⟩, ⟨f0, f1, f2⟩⟩ := hcm.cell
        have hlt : w.heap.size < w4.heap.size := (Array.getElem?_eq_some_iff.1 hcm).1
        clear hcm
        clear hb hR4 hT4
        go_wp2_with fail
        simp [bodyPost, results, Tryd.results47, go_sem, k0, k1, k2]
        refine ⟨by rw [HCN.out]; first | rfl | (rw [HXT.out]; rfl) | (rw [HKZ.out, HXT.out, HVT.out]; rfl), ?_⟩
        exact (((HT0.out.trans HT4.out).off _ _ (Nat.le_refl _)).off _ _ (Nat.le_refl _)).off _ _ (Nat.le_refl _)
      | true =>
        have HR4 := Lib.hid (show RestAt w4 p (L2.drop (k + 1)) from by rw [toR_drop hb] at hR4; exact hR4)
        have HCS := Lib.hid (HS.out HK0.out hb)
        obtain ⟨L3, hL3⟩ : ∃ z, z = L2.drop (k + 1) := ⟨_, rfl⟩
        rw [← hL3] at HR4 HCS
        clear hb hR4 hT4 hL3
        go_upto_region 9 with (fail)
        go_cut [102] (fun b wx => b = .bool (aloneW L3 w_default) ∧ w4 = wx)
        case first =>
          obtain ⟨a, c, hC, hc, h9, hn, hTW, hx⟩ := HR4.out
          have c0 := hC.cell
          clear hC
          cases L3 with
          | nil =>
            go_wp2_with fail
            go_meet
            exact ⟨rfl, rfl⟩
          | cons t r =>
            cases r with
            | nil =>
              obtain ⟨g, off, rfl, hg, hT'⟩ := hTW.first
              obtain ⟨_, a0, a1, _⟩ := hT'.get (i := 0) rfl
              rw [Nat.zero_mul, Nat.add_zero] at a0 a1
              have hcc : (1 : Int) ≤ c := by have : [t].length ≤ c := hc; simp at this; omega
              have hl1 : ([t].length : Nat) = 1 := rfl
              rw [hl1] at c0
              obtain ⟨AB, hAB⟩ : ∃ z, z = aloneW [t] w_default := ⟨_, rfl⟩
              have HAE := Lib.hid hAB
              have hab : AB = (((t.kind.toNat : Int) == 119) && (t.text == w_default)) := by
                rw [hAB]
                show (true && (t.kind == 119 && t.text == w_default)) = _
                rw [kind_bool]; rfl
              obtain ⟨YT, hYT⟩ : ∃ z : ByteArray, z = ⟨t.text.toArray⟩ := ⟨_, rfl⟩
              have hYL : t.text = YT.toList := by rw [hYT]; exact (str_list _).symm
              rw [← hYT] at a1
              rw [hYL] at hab
              obtain ⟨tk, htk⟩ : ∃ z : Int, z = (t.kind.toNat : Nat) := ⟨_, rfl⟩
              rw [← htk] at a0 hab
              have HAB := Lib.hid hab
              clear hab hYL hYT htk hT' hTW hx hAB hn hc
              cases p1 : (tk == 119) with
              | false =>
                have HA2 := Lib.hid (show AB = false from by rw [HAB.out, p1]; rfl)
                go_wp2_with fail
                go_meet
                exact ⟨by rw [← HAE.out, HA2.out], rfl⟩
              | true =>
                cases p2 : (YT.toList == [100, 101, 102, 97, 117, 108, 116]) with
                | false =>
                  have HA2 := Lib.hid (show AB = false from by rw [HAB.out, p1]; exact p2)
                  go_wp2_with fail
                  go_meet
                  exact ⟨by rw [← HAE.out, HA2.out], rfl⟩
                | true =>
                  have HA2 := Lib.hid (show AB = true from by rw [HAB.out, p1]; exact p2)
                  go_wp2_with fail
                  go_meet
                  exact ⟨by rw [← HAE.out, HA2.out], rfl⟩
            | cons u r =>
              obtain ⟨n, hnn⟩ : ∃ n, n = (t :: u :: r).length := ⟨_, rfl⟩
              have hn1 : ((n : Int) == 1) = false := by rw [beq_eq_false_iff_ne, hnn]; simp; omega
              obtain ⟨AB, hAB⟩ : ∃ z, z = aloneW (t :: u :: r) w_default := ⟨_, rfl⟩
              have HAE := Lib.hid hAB
              have HAB := Lib.hid (show AB = false from by
                rw [hAB]; unfold aloneW; rw [show ((t :: u :: r).length == 1) = false from by simp]; rfl)
              rw [← hnn] at c0
              clear hTW hx hn hc hnn hAB
              go_wp2_with fail
              go_meet
              exact ⟨by rw [← HAE.out, HAB.out], rfl⟩
        case rest =>
          obtain ⟨rfl, rfl⟩ := hcut
          cases hal : aloneW L3 w_default with
          | true =>
            rcases HW.out with hk | hk
            · have r1 : (kz == 108) = true := by rw [HKZ.out, hk]; rfl
              have HCN := Lib.hid (show C = noCmd from by rw [HCS.out, if_pos hal, hk]; rfl)
              have hcm : CmdCell w4 w.heap.size := (HT4.out.block w.heap.size (by rw [HZ.out.2]; omega) (by have := HZ.out.1; omega)).trans HCM.out
              obtain ⟨⟨k0, k1, k2⟩, ⟨f0, f1, f2⟩⟩ := hcm.cell
              have hlt : w.heap.size < w4.heap.size := (Array.getElem?_eq_some_iff.1 hcm).1
              clear hcm
              clear hal hk
              go_wp2_with fail
              simp [bodyPost, results, Tryd.results47, go_sem, k0, k1, k2]
              refine ⟨by rw [HCN.out]; first | rfl | (rw [HXT.out]; rfl) | (rw [HKZ.out, HXT.out, HVT.out]; rfl), ?_⟩
              exact (((HT0.out.trans HT4.out).off _ _ (Nat.le_refl _)).off _ _ (Nat.le_refl _)).off _ _ (Nat.le_refl _)
            · have r1 : (kz == 108) = false := by rw [HKZ.out, hk]; rfl
              have HCN := Lib.hid (show C = ⟨114, x, []⟩ from by rw [HCS.out, if_pos hal, hk]; rfl)
              have hcm : CmdCell w4 w.heap.size := (HT4.out.block w.heap.size (by rw [HZ.out.2]; omega) (by have := HZ.out.1; omega)).trans HCM.out
              obtain ⟨⟨k0, k1, k2⟩, ⟨f0, f1, f2⟩⟩ := hcm.cell
              have hlt : w.heap.size < w4.heap.size := (Array.getElem?_eq_some_iff.1 hcm).1
              clear hcm
              clear hal hk
              go_wp2_with fail
              simp [bodyPost, results, Tryd.results47, go_sem, k0, k1, k2]
              refine ⟨by rw [HCN.out]; first | rfl | (rw [HXT.out]; rfl) | (rw [HKZ.out, HXT.out, HVT.out]; rfl), ?_⟩
              exact (((HT0.out.trans HT4.out).off _ _ (Nat.le_refl _)).off _ _ (Nat.le_refl _)).off _ _ (Nat.le_refl _)
          | false =>
            have HVL := Lib.hid (rvalue_any p L3 w4 HR4.out)
            have HCS2 := Lib.hid (show C = if (valueB L3).2 then ⟨kd, x, (valueB L3).1⟩ else noCmd from by rw [HCS.out, if_neg (by rw [hal]; decide)])
            cases hvb : (valueB L3).2 with
            | true =>
              rw [show valV L3 = .tuple #[.string ⟨(valueB L3).1.toArray⟩, .bool true] from by unfold valV; rw [if_pos hvb]] at HVL
              have HCN := Lib.hid (show C = ⟨kd, x, (valueB L3).1⟩ from by rw [HCS2.out, if_pos hvb])
              obtain ⟨VT, hVT⟩ : ∃ z : ByteArray, z = ⟨(valueB L3).1.toArray⟩ := ⟨_, rfl⟩
              have HVT := Lib.hid hVT
              rw [← hVT] at HVL
              clear hal hvb hVT
              go_wp2_with fail
              refine HVL.out.mono ?_; rintro e w5 ⟨rfl, hT5⟩
              have HT5 := Lib.hid (HT4.out.trans hT5)
              have hcm : CmdCell w5 w.heap.size := (HT5.out.block w.heap.size (by rw [HZ.out.2]; omega) (by have := HZ.out.1; omega)).trans HCM.out
              obtain ⟨⟨k0, k1, k2⟩, ⟨f0, f1, f2⟩⟩ := hcm.cell
              have hlt : w.heap.size < w5.heap.size := (Array.getElem?_eq_some_iff.1 hcm).1
              clear hcm
              clear hT5
              go_wp2_with fail
              simp [bodyPost, results, Tryd.results47, go_sem, k0, k1, k2]
              refine ⟨by rw [HCN.out]; first | rfl | (rw [HXT.out]; rfl) | (rw [HKZ.out, HXT.out, HVT.out]; rfl), ?_⟩
              exact (((HT0.out.trans HT5.out).off _ _ (Nat.le_refl _)).off _ _ (Nat.le_refl _)).off _ _ (Nat.le_refl _)
            | false =>
              rw [show valV L3 = .tuple #[.string { data := #[] }, .bool false] from by unfold valV; rw [if_neg (by rw [hvb]; decide)]] at HVL
              have HCN := Lib.hid (show C = noCmd from by rw [HCS2.out, if_neg (by rw [hvb]; decide)])
              clear hal hvb
              go_wp2_with fail
              refine HVL.out.mono ?_; rintro e w5 ⟨rfl, hT5⟩
              have HT5 := Lib.hid (HT4.out.trans hT5)
              have hcm : CmdCell w5 w.heap.size := (HT5.out.block w.heap.size (by rw [HZ.out.2]; omega) (by have := HZ.out.1; omega)).trans HCM.out
              obtain ⟨⟨k0, k1, k2⟩, ⟨f0, f1, f2⟩⟩ := hcm.cell
              have hlt : w.heap.size < w5.heap.size := (Array.getElem?_eq_some_iff.1 hcm).1
              clear hcm
              clear hT5
              go_wp2_with fail
              simp [bodyPost, results, Tryd.results47, go_sem, k0, k1, k2]
              refine ⟨by rw [HCN.out]; first | rfl | (rw [HXT.out]; rfl) | (rw [HKZ.out, HXT.out, HVT.out]; rfl), ?_⟩
              exact (((HT0.out.trans HT5.out).off _ _ (Nat.le_refl _)).off _ _ (Nat.le_refl _)).off _ _ (Nat.le_refl _)
end Go.Proofs.YtgopajddloeclaaDoor

namespace Go.Proofs.YtgopajddloeclaaDoor
open Go.RowKit Go.Lib Go.WideShapes

set_option maxRecDepth 100000 in
set_option maxHeartbeats 16000000 in
theorem rback_any (p : Nat) (L : List Tok) (w : World) (h : RestAt w p L) :
    Calls Tryd.prog 52 #[.pointer (some ⟨p, 0, none⟩)] w (COut w p (orNone (rollC (workW L)))) := by
  obtain ⟨W0, hW0⟩ : ∃ x, x = w.alloc (.cells #[.int .u8 0, .string { data := #[] }, .string { data := #[] }] 31) := ⟨_, rfl⟩
  have hb0 : Below w.heap.size w W0 := by rw [hW0]; exact (Below.refl _ _).alloc (Nat.le_refl _) _
  have HE := Lib.hid hW0
  have HCM := Lib.hid (show CmdCell W0 w.heap.size from by rw [hW0]; exact heap_alloc_new w _)
  have HZ := Lib.hid (show p < w.heap.size ∧ W0.heap.size = w.heap.size + 1 from ⟨h.lt, by rw [hW0]; simp⟩)
  have HT0 := Lib.hid (show TurnedR w W0 p from TurnedR.below hb0)
  have HR0 := Lib.hid (h.grown hb0)
  have HL0 := Lib.hid h
  obtain ⟨⟨ck, cn, cv⟩, hC⟩ : ∃ C, C = orNone (rollC (workW L)) := ⟨_, rfl⟩
  have HC := Lib.hid hC
  rw [← hC]
  have HWK := Lib.hid (rwork_any p L W0 HR0.out)
  obtain ⟨L1, hL1⟩ : ∃ z, z = workW L := ⟨_, rfl⟩
  rw [← hL1] at HWK HC
  clear h hb0 hW0 hC hL1 HL0
  go_enter Tryd.func52, Tryd.ntmps52
  go_wp2_with fail
  rw [← HE.out]
  refine HWK.out.mono ?_; rintro e w1 ⟨rfl, hR1, hT1⟩
  have HT1 := Lib.hid hT1
  have HWT := Lib.hid (rword_any p { data := #[116, 111] } L1 w1 hR1)
  rw [show bytes { data := #[116, 111] } = w_to from rfl] at HWT
  clear hR1 hT1 HWK
  go_wp2_with fail
  refine HWT.out.mono ?_; rintro e w2 ⟨rfl, hR2, hT2⟩
  have HT2 := Lib.hid (HT1.out.trans hT2)
  clear hT2 HWT
  cases hb : beginsW L1 w_to with
  | false =>
    have HR2 := Lib.hid (show RestAt w2 p L1 from by unfold wordR at hR2; rw [if_neg (by rw [hb]; decide)] at hR2; exact hR2)
    have HC2 := Lib.hid (show (⟨ck, cn, cv⟩ : Cmd) = orNone (⟨107, [], []⟩, L1.length == 0) from by rw [HC.out]; unfold rollC; rw [if_neg (by rw [hb]; decide)])
    clear hb hR2
    have HX := Lib.hid (show Calls Tryd.prog 50 #[.pointer (some ⟨p, 0, none⟩), .int .u8 107] w2 (fun e w' => e = .returned (.agg #[.int .u8 (ck.toNat : Nat), .string ⟨cn.toArray⟩, .string ⟨cv.toArray⟩]) ∧ TurnedR w2 w' p) from by
      have h1 := rends_any p 107 L1 w2 HR2.out
      rw [show orNone (⟨107, [], []⟩, L1.length == 0) = ⟨ck, cn, cv⟩ from HC2.out.symm] at h1
      exact h1)
    go_wp2_with fail
    refine HX.out.mono ?_; rintro e w3 ⟨rfl, hT3⟩
    have HT3 := Lib.hid (HT2.out.trans hT3)
    clear hT3 HX
    have hcm : CmdCell w3 w.heap.size := (HT3.out.block w.heap.size (by rw [HZ.out.2]; omega) (by have := HZ.out.1; omega)).trans HCM.out
    obtain ⟨⟨k0, k1, k2⟩, ⟨f0, f1, f2⟩⟩ := hcm.cell
    clear hcm
    go_wp2_with fail
    simp [bodyPost, results, Tryd.results52, go_sem, k0, k1, k2]
    refine ⟨rfl, ?_⟩
    exact (((HT0.out.trans HT3.out).off _ _ (Nat.le_refl _)).off _ _ (Nat.le_refl _)).off _ _ (Nat.le_refl _)
  | true =>
    obtain ⟨L2, hL2⟩ : ∃ z, z = L1.drop 1 := ⟨_, rfl⟩
    have HR2 := Lib.hid (show RestAt w2 p L2 from by unfold wordR at hR2; rw [if_pos hb] at hR2; rw [hL2]; exact hR2)
    have HC2 := Lib.hid (show (⟨ck, cn, cv⟩ : Cmd) = orNone (pointC 116 (saveW L2)) from by rw [HC.out]; unfold rollC; rw [if_pos hb, hL2])
    have HSV := Lib.hid (rword_any p { data := #[115, 97, 118, 101, 112, 111, 105, 110, 116] } L2 w2 HR2.out)
    rw [show bytes { data := #[115, 97, 118, 101, 112, 111, 105, 110, 116] } = w_savepoint from rfl] at HSV
    clear hb hR2 hL2
    obtain ⟨a, c, hCC, _⟩ := HR2.out
    have c0 := hCC.cell
    clear hCC
    obtain ⟨n, hn⟩ : ∃ n, n = L2.length := ⟨_, rfl⟩
    have HN := Lib.hid hn
    rw [← hn] at c0
    clear hn
    by_cases hl : 1 < n
    · have hl2 : (1 : Int) < n := by omega
      go_wp2_with fail
      refine HSV.out.mono ?_; rintro e w3 ⟨rfl, hR3, hT3⟩
      have HR3 := Lib.hid (show RestAt w3 p (saveW L2) from by
        have e : saveW L2 = wordR L2 w_savepoint := by unfold saveW wordR; rw [← HN.out, decide_eq_true hl, Bool.true_and]
        rw [e]; exact hR3)
      have HT3 := Lib.hid (HT2.out.trans hT3)
      clear hR3 hT3
      have HX := Lib.hid (show Calls Tryd.prog 53 #[.pointer (some ⟨p, 0, none⟩), .int .u8 116] w3 (fun e w' => e = .returned (.agg #[.int .u8 (ck.toNat : Nat), .string ⟨cn.toArray⟩, .string ⟨cv.toArray⟩]) ∧ TurnedR w3 w' p) from by
        have h1 := rat_any p 116 (saveW L2) w3 HR3.out
        rw [show orNone (pointC 116 (saveW L2)) = ⟨ck, cn, cv⟩ from HC2.out.symm] at h1
        exact h1)
      go_wp2_with fail
      refine HX.out.mono ?_; rintro e w4 ⟨rfl, hT4⟩
      have HT4 := Lib.hid (HT3.out.trans hT4)
      clear hT4 HX
      have hcm : CmdCell w4 w.heap.size := (HT4.out.block w.heap.size (by rw [HZ.out.2]; omega) (by have := HZ.out.1; omega)).trans HCM.out
      obtain ⟨⟨k0, k1, k2⟩, ⟨f0, f1, f2⟩⟩ := hcm.cell
      clear hcm
      go_wp2_with fail
      simp [bodyPost, results, Tryd.results52, go_sem, k0, k1, k2]
      refine ⟨rfl, ?_⟩
      exact (((HT0.out.trans HT4.out).off _ _ (Nat.le_refl _)).off _ _ (Nat.le_refl _)).off _ _ (Nat.le_refl _)
    · have hl2 : ¬ (1 : Int) < n := by omega
      have HR3 := Lib.hid (show RestAt w2 p (saveW L2) from by
        have e : saveW L2 = L2 := by unfold saveW; rw [← HN.out, decide_eq_false hl]; rfl
        rw [e]; exact HR2.out)
      have HX := Lib.hid (show Calls Tryd.prog 53 #[.pointer (some ⟨p, 0, none⟩), .int .u8 116] w2 (fun e w' => e = .returned (.agg #[.int .u8 (ck.toNat : Nat), .string ⟨cn.toArray⟩, .string ⟨cv.toArray⟩]) ∧ TurnedR w2 w' p) from by
        have h1 := rat_any p 116 (saveW L2) w2 HR3.out
        rw [show orNone (pointC 116 (saveW L2)) = ⟨ck, cn, cv⟩ from HC2.out.symm] at h1
        exact h1)
      go_wp2_with fail
      refine HX.out.mono ?_; rintro e w4 ⟨rfl, hT4⟩
      have HT4 := Lib.hid (HT2.out.trans hT4)
      clear hT4 HX
      have hcm : CmdCell w4 w.heap.size := (HT4.out.block w.heap.size (by rw [HZ.out.2]; omega) (by have := HZ.out.1; omega)).trans HCM.out
      obtain ⟨⟨k0, k1, k2⟩, ⟨f0, f1, f2⟩⟩ := hcm.cell
      clear hcm
      go_wp2_with fail
      simp [bodyPost, results, Tryd.results52, go_sem, k0, k1, k2]
      refine ⟨rfl, ?_⟩
      exact (((HT0.out.trans HT4.out).off _ _ (Nat.le_refl _)).off _ _ (Nat.le_refl _)).off _ _ (Nat.le_refl _)
end Go.Proofs.YtgopajddloeclaaDoor
