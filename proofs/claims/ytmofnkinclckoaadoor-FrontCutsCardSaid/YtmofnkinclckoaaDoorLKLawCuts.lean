/- However the bytes of a client are cut, the events, one behind the other, are the same; statements are asked for as they were sent: FrontCuts answers true, whatever it is called with, and leaves what was there as it was. (Over the listed variables, tied to the program's text.) -/
import Derived.Test.YtmofnkinclckoaaDoorZ12
import Derived.Test.YtmofnkinclckoaaDoorZ11
import Derived.BigQuiet
import Derived.Deep.QuietTactic
namespace Go.Proofs.YtmofnkinclckoaaDoor
open Go.RowKit Go.Lib Go.WideShapes Go.ChangeShapes Go.ChangeAt Go.Joins

def cT : List Bs := [[100, 97, 116, 97, 98, 97, 115, 101], [100], [117, 115, 101, 114], [117], [117, 115, 101, 114], [118]]
def cE : Ev := ⟨115, [117], [100], [], []⟩
theorem cT_written : ∃ B, written false 0 cT [196608, (cT.length : Int)] = some B ∧ B.length ≤ 10000 := ⟨_, rfl, by decide⟩
/-- What a client says: a beginning, and statements. -/
def sayK (c : Nat → Int) : Nat → ByteArray
  | 0 => startK cT
  | j + 1 => sayK c j ++ askS (stB (c j))
def evK (c : Nat → Int) : Nat → List Ev
  | 0 => [cE]
  | j + 1 => evK c j ++ [askE (stB (c j))]
theorem sayK_told (c : Nat → Int) : ∀ j, KTold (sayK c j) false (evK c j) (some ({ data := #[] }, true))
  | 0 => by
    obtain ⟨B, h, hl⟩ := cT_written
    have := told_start (T := cT) h hl (tail := { data := #[] }) (L := []) (st := some ({ data := #[] }, true)) rfl ktold_nil
    rw [append_empty] at this
    exact this
  | j + 1 => by
    have h := sayK_told c j
    have h2 : KTold (({ data := #[] } : ByteArray) ++ askS (stB (c j))) true [askE (stB (c j))] (some ({ data := #[] }, true)) := by
      rw [empty_append, ← append_empty (askS (stB (c j)))]
      exact told_ask (stB_free _) (by have := stB_size (c j); omega) ktold_nil
    exact h.fed rfl h2
theorem askS_size {t : Bs} (h : t.length ≤ 40) : (askS t).size ≤ 100 := by
  unfold askS packB packL
  rw [if_neg (by decide)]
  show Array.size _ ≤ _
  simp [be4_length]
  omega
theorem sayK_size (c : Nat → Int) : ∀ j, (sayK c j).size ≤ 10010 + 100 * j
  | 0 => by have := startK_size cT; show (startK cT).size ≤ _; omega
  | j + 1 => by
    have h := sayK_size c j
    have h2 := askS_size (stB_size (c j))
    show (sayK c j ++ askS (stB (c j))).size ≤ _
    rw [ByteArray.size_append]
    omega
theorem evK_length (c : Nat → Int) : ∀ j, (evK c j).length = j + 1
  | 0 => rfl
  | j + 1 => by show (evK c j ++ [_]).length = _; rw [List.length_append, evK_length c j]; rfl
theorem evK_first (c : Nat → Int) : ∀ j, (evK c j)[0]? = some cE
  | 0 => rfl
  | j + 1 => by
    show (evK c j ++ [_])[0]? = _
    rw [List.getElem?_append_left (by rw [evK_length]; omega)]
    exact evK_first c j
theorem evK_at (c : Nat → Int) : ∀ j i, i < j → (evK c j)[i + 1]? = some (askE (stB (c i)))
  | 0, i, h => by omega
  | j + 1, i, h => by
    show (evK c j ++ [_])[i + 1]? = _
    by_cases hi : i < j
    · rw [List.getElem?_append_left (by rw [evK_length]; omega)]
      exact evK_at c j i hi
    · obtain rfl : i = j := by omega
      rw [List.getElem?_append_right (by rw [evK_length]; omega), evK_length, Nat.sub_self]; rfl
theorem texts_six (w : World) : TextsIn (w.alloc (.cells #[.string { data := #[100, 97, 116, 97, 98, 97, 115, 101] }, .string { data := #[100] }, .string { data := #[117, 115, 101, 114] }, .string { data := #[117] }, .string { data := #[117, 115, 101, 114] }, .string { data := #[118] }] 9)) (.slice (some ⟨w.heap.size, 0, none⟩) 6 6) cT := by
  refine ⟨_, 6, 6, rfl, rfl, Nat.le_refl _, by omega, .inr ⟨_, 0, rfl, by rw [World.size_alloc]; exact Nat.lt_succ_self _, ?_⟩⟩
  intro i t ht
  match i, ht with
  | 0, ht => obtain rfl := Option.some.inj ht; simp [go_sem]
  | 1, ht => obtain rfl := Option.some.inj ht; simp [go_sem]
  | 2, ht => obtain rfl := Option.some.inj ht; simp [go_sem]
  | 3, ht => obtain rfl := Option.some.inj ht; simp [go_sem]
  | 4, ht => obtain rfl := Option.some.inj ht; simp [go_sem]
  | 5, ht => obtain rfl := Option.some.inj ht; simp [go_sem]
theorem startC_any (w : World) : Calls Tryd.prog 9 #[.slice (some ⟨w.heap.size, 0, none⟩) 6 6] (w.alloc (.cells #[.string { data := #[100, 97, 116, 97, 98, 97, 115, 101] }, .string { data := #[100] }, .string { data := #[117, 115, 101, 114] }, .string { data := #[117] }, .string { data := #[117, 115, 101, 114] }, .string { data := #[118] }] 9)) fun e w' => e = .returned (.string (startK cT)) ∧ Below w.heap.size w w' := by
  refine (startK_any _ 6 6 cT _ (texts_six w) (by decide)).mono ?_
  rintro e w' ⟨rfl, hb⟩
  exact ⟨rfl, ((Below.refl _ _).alloc (Nat.le_refl _) _).step hb (by simp)⟩
theorem cut_two (R : ByteArray) (n : Nat) (h : n ≤ R.size) : R.extract 0 n ++ R.extract n R.size = R := by
  apply ByteArray.ext
  apply Array.toList_inj.1
  have := size_list R
  rw [append_list, Lib.extract_data, Lib.extract_data, List.drop_zero, Nat.sub_zero, List.take_of_length_le (l := List.drop n R.data.toList) (by rw [List.length_drop]; omega), List.take_append_drop]
/-- A query of the law's own text. -/
theorem queryK_any (n : Int) (w : World) : Calls Tryd.prog 10 #[.string ⟨(stB n).toArray⟩] w fun e w' => e = .returned (.tuple #[.string (askS (stB n)), .int .i64 0]) ∧ Below w.heap.size w w' := by
  have hb : bytes (⟨(stB n).toArray⟩ : ByteArray) = stB n := by simp [bytes]
  have hz : (⟨(stB n).toArray⟩ : ByteArray).size ≤ 40 := by rw [← bytes_len, hb]; exact stB_size n
  have := query_any w ⟨(stB n).toArray⟩ (by omega)
  rw [query_good (by rw [hb]; exact stB_free n) (by omega), qS_ask, hb] at this
  exact this
set_option maxRecDepth 100000 in
set_option maxHeartbeats 16000000 in
theorem cuts_walk (a0 : Option Addr) (len cap : Nat) (c : Nat → Int) (a1 : Option Addr) (clen ccap : Nat) (d : Nat → Int) (w : World) (hC : len = 0 ∨ ∃ b off, a0 = some ⟨b, off, none⟩ ∧ b < w.heap.size ∧ IntsAt w b off len c) (hcr : ∀ i, i < len → -9223372036854775808 ≤ c i ∧ c i ≤ 9223372036854775807) (hD : clen = 0 ∨ ∃ b off, a1 = some ⟨b, off, none⟩ ∧ b < w.heap.size ∧ IntsAt w b off clen d) (hdr : ∀ i, i < clen → -9223372036854775808 ≤ d i ∧ d i ≤ 9223372036854775807) :
    Calls Tryd.prog 3 #[.slice a0 len cap, .slice a1 clen ccap] w fun e w' => e = .returned (.bool true) ∧ Below w.heap.size w w' := by
  have HC := Lib.hid hC; have HCR := Lib.hid hcr; have HD := Lib.hid hD; have HDR := Lib.hid hdr
  clear hC hcr hD hdr
  go_enter Tryd.func3, Tryd.ntmps3
  go_wp2_with fail
  refine (shown18 w).mono ?_; rintro e w1 ⟨rfl, hb⟩
  have B1 := Lib.hid hb
  clear hb
  go_wp2_with fail
  refine (newF_any w1).mono ?_; rintro e w2 ⟨p, q, rfl, hF, hb, hp, hq⟩
  have B2 := Lib.hid (B1.out.step hb B1.out.size)
  have HF2 := Lib.hid hF
  have HP := Lib.hid (show w.heap.size ≤ p ∧ w.heap.size ≤ q from by have := B1.out.size; omega)
  have HPL := Lib.hid (show p < w2.heap.size ∧ q < w2.heap.size from ⟨hF.cell.lt, hF.rd.lt⟩)
  clear hF hb hp hq
  by_cases h40 : 40 < len
  · have h41 : decide ((40 : Int) < len) = true := decide_eq_true (by omega)
    go_wp2_with fail
    go_ret
    exact ⟨rfl, B2.out⟩
  have h41 : decide ((40 : Int) < len) = false := decide_eq_false (by omega)
  have h42 : (len : Int) ≤ 40 := by omega
  by_cases h100 : 100 < clen
  · have h101 : decide ((100 : Int) < clen) = true := decide_eq_true (by omega)
    go_wp2_with fail
    go_ret
    exact ⟨rfl, B2.out⟩
  have h101 : decide ((100 : Int) < clen) = false := decide_eq_false (by omega)
  have h102 : (clen : Int) ≤ 100 := by omega
  go_wp2_with fail
  refine (startC_any w2).mono ?_; rintro e w3 ⟨rfl, hb⟩
  have HF3 := Lib.hid (HF2.out.grown hb)
  have B3 := Lib.hid (B2.out.step hb B2.out.size)
  have HPL3 := Lib.hid (show p < w3.heap.size ∧ q < w3.heap.size from by have := HPL.out; have := hb.size; omega)
  clear hb
  rw [show startK cT = sayK c 0 from rfl]
  clear h41 h101
  go_wp2_with fail
  go_loopw [7, 8] (fun sv iv wr => ∃ j : Nat, iv = .int .i64 j ∧ j ≤ len ∧ sv = .string (sayK c j) ∧ Below w3.heap.size w3 wr) (fun _ iv _ => len - (RowKit.intOf iv).toNat)
  case atStart => exact ⟨0, rfl, Nat.zero_le _, rfl, Below.refl _ _⟩
  case round =>
    obtain ⟨j, rfl, hj, rfl, hb⟩ := hrel
    have HB := Lib.hid hb
    clear hb
    obtain ⟨S, hS⟩ : ∃ S, S = sayK c j := ⟨_, rfl⟩
    have hSz : S.size ≤ 14010 := by rw [hS]; have := sayK_size c j; omega
    rw [← hS]
    have HS := Lib.hid hS
    clear hS
    by_cases hlt : j < len
    · have hlt' : (j : Int) < len := by omega
      rcases HC.out with h0 | ⟨b, off, rfl, hbl, hcc⟩
      · exact absurd h0 (by omega)
      have B4 := Lib.hid (B3.out.step HB.out B3.out.size)
      have cj := (B4.out.cell (p := ⟨b, off + j, none⟩) hbl).trans (hcc j hlt)
      have hbw : b < wr.heap.size := by have := B4.out.size; omega
      have HST := Lib.hid (fun W => statement_any (c j) W (HCR.out j hlt))
      have HQ := Lib.hid (fun W => queryK_any (c j) W)
      have hqz := askS_size (stB_size (c j))
      obtain ⟨t, ht⟩ : ∃ z : ByteArray, z = ⟨(stB (c j)).toArray⟩ := ⟨_, rfl⟩
      obtain ⟨sq, hsq⟩ : ∃ z, z = askS (stB (c j)) := ⟨_, rfl⟩
      have HSN := Lib.hid (show sayK c (j + 1) = S ++ sq from by rw [HS.out, hsq]; rfl)
      rw [← ht] at HST HQ
      rw [← hsq] at HQ hqz
      clear ht hsq hcc
      go_wp2_with fail
      refine (HST.out wr).mono ?_; rintro e w6 ⟨rfl, hb⟩
      have HB6 := Lib.hid (HB.out.step hb HB.out.size)
      clear hb
      go_wp2_with fail
      refine (HQ.out w6).mono ?_; rintro e w7 ⟨rfl, hb⟩
      have HB7 := Lib.hid (HB6.out.step hb HB6.out.size)
      clear hb cj
      go_wp2_with fail
      go_roundw
      case measure => first | omega | (simp [RowKit.intOf]; done) | (simp [RowKit.intOf]; omega)
      case rel => exact ⟨j + 1, by go_num, by omega, by rw [HSN.out], HB7.out⟩
    · have hje : j = len := by omega
      rw [hje] at HS
      have HSS := HS
      have hge : ¬ (j : Int) < len := by omega
      have HKS := Lib.hid (show KTold S false (evK c len) (some ({ data := #[] }, true)) from by rw [HSS.out]; exact sayK_told c len)
      have B4 := Lib.hid (B3.out.step HB.out B3.out.size)
      have HF4 := Lib.hid (HF3.out.grown HB.out)
      have HZ4 := Lib.hid HB.out.size
      clear hje hlt
      go_wp2_with fail
      go_loopw [7, 11, 12] (fun sv gv iv wq => ∃ (i : Nat) (R K : ByteArray) (Lk : List Ev) (st : Option (ByteArray × Bool)) (v : Value), iv = .int .i64 i ∧ sv = .string R ∧ S = K ++ R ∧ KTold K false Lk st ∧ KRow wq w3.heap.size gv Lk ∧ FSt wq p q v st ∧ (∀ k, v.ownBlock = some k → w.heap.size ≤ k) ∧ Below w.heap.size w wq ∧ w3.heap.size ≤ wq.heap.size ∧ (i ≤ clen ∨ R = { data := #[] })) (fun _ _ iv _ => clen + 1 - (RowKit.intOf iv).toNat)
      case atStart => exact ⟨0, S, { data := #[] }, [], some ({ data := #[] }, false), .slice none 0 0, rfl, rfl, (empty_append S).symm, ktold_nil0, KRow.nil _ _, HF4.out, (by simp [Value.ownBlock]), B4.out, HZ4.out, .inl (Nat.zero_le _)⟩
      case round =>
        obtain ⟨i, R, K, Lk, st, v, rfl, rfl, hSK, hK, hG, hF, hv, hb, hz, hi⟩ := hrel
        have HSK := Lib.hid hSK; have HK := Lib.hid hK; have HG := Lib.hid hG; have HFS := Lib.hid hF; have HV := Lib.hid hv; have BQ := Lib.hid hb; have HZ := Lib.hid hz
        have hsum : S.size = K.size + R.size := by rw [hSK, ByteArray.size_append]
        have hlk := hK.size.1
        obtain ⟨ga, gc, rfl⟩ := hG.form
        have HI := Lib.hid hi
        clear hSK hK hG hF hv hb hz hi
        by_cases hR : R = { data := #[] }
        · subst hR
          have hKS : K = S := by rw [HSK.out, append_empty]
          have hdet := HKS.out.det (by rw [← hKS]; exact HK.out)
          have hlen : Lk.length = len + 1 := by rw [← hdet.1, evK_length]
          have HGR := Lib.hid HG.out
          obtain ⟨g, gc9, hv9, hgc, hgb, hgl, hcell⟩ := HG.out.read (by intro h; rw [h] at hlen; simp at hlen)
          injection hv9 with e1 _ e3
          subst e1 e3
          rw [hlen] at hgc HGR ⊢
          have hE0 : Lk[0]? = some cE := by rw [← hdet.1]; exact evK_first c len
          have hEj : ∀ i, i < len → Lk[i + 1]? = some (askE (stB (c i))) := fun i hi => by rw [← hdet.1]; exact evK_at c len i hi
          have hA := hcell 0 _ hE0
          have m0 : wr.cell? ⟨g, 0, none⟩ = some (.int .u8 115) := hA.1
          have m1 : wr.cell? ⟨g, 1, none⟩ = some (.string { data := #[117] }) := hA.2.1
          have m2 : wr.cell? ⟨g, 2, none⟩ = some (.string { data := #[100] }) := hA.2.2.1
          have HCE := Lib.hid hcell; have HEJ := Lib.hid hEj
          have HST := Lib.hid hdet.2
          have HOS := Lib.hid (over_st p q v st wr HFS.out)
          rw [show overS st = false from by rw [← HST.out]; rfl] at HOS
          have hgc1 : (len : Int) + 1 ≤ gc := by omega
          have hne9 : ((len : Int) + 1 != 1 + len) = false := by simp; omega
          clear hKS hdet hlen hA hcell hE0 hEj hge
          go_wp2_with fail
          refine HOS.out.mono ?_; rintro e w8 ⟨rfl, rfl⟩
          go_wp2_with fail
          go_loopw [14] (fun iv wx => ∃ j : Nat, iv = .int .i64 j ∧ j ≤ len ∧ wr.heap.size ≤ wx.heap.size ∧ Below wr.heap.size wr wx) (fun iv _ => len - (RowKit.intOf iv).toNat)
          case atStart => exact ⟨0, rfl, Nat.zero_le _, Nat.le_refl _, Below.refl _ _⟩
          case round =>
            obtain ⟨j, rfl, hj, hz, hb⟩ := hrel
            have HZ9 := Lib.hid hz; have HB9 := Lib.hid hb
            by_cases hlt : j < len
            · have hlt' : (j : Int) < len := by omega
              rcases HC.out with h0 | ⟨b, off, rfl, hbl, hcc⟩
              · exact absurd h0 (by omega)
              have hbw : b < wr.heap.size := by have := BQ.out.size; omega
              have cj := ((BQ.out.trans (hb.mono BQ.out.size)).cell (p := ⟨b, off + j, none⟩) hbl).trans (hcc j hlt)
              have hev := HCE.out (j + 1) _ (HEJ.out j hlt)
              have n0 := (hb.cell (p := ⟨g, (j + 1) * 5, none⟩) hgl).trans hev.1
              have n3 := (hb.cell (p := ⟨g, (j + 1) * 5 + 3, none⟩) hgl).trans hev.2.2.2
              have hgw : g < wr.heap.size := Nat.lt_of_lt_of_le hgl hz
              have HST9 := Lib.hid (fun W => statement_any (c j) W (HCR.out j hlt))
              obtain ⟨tb, htb⟩ : ∃ z : ByteArray, z = ⟨(stB (c j)).toArray⟩ := ⟨_, rfl⟩
              have n0' : wr.cell? ⟨g, (j + 1) * 5, none⟩ = some (.int .u8 113) := n0
              have n3' : wr.cell? ⟨g, (j + 1) * 5 + 3, none⟩ = some (.string tb) := by rw [htb]; exact n3
              rw [← htb] at HST9
              have S0 : (wr.cell? ⟨g, (j + 1) * 5, none⟩ = some (.int .u8 113) ∧ wr.cell? ⟨g, (j + 1) * 5 + 3, none⟩ = some (.string tb) ∧ wr.cell? ⟨b, off + j, none⟩ = some (.int .i64 (c j))) ∧ (wr.heap.size ≤ wr.heap.size ∧ Below wr.heap.size wr wr) := ⟨⟨n0', n3', cj⟩, Nat.le_refl _, Below.refl _ _⟩
              have HSTEP := Lib.hid (show ∀ W W', ((W.cell? ⟨g, (j + 1) * 5, none⟩ = some (.int .u8 113) ∧ W.cell? ⟨g, (j + 1) * 5 + 3, none⟩ = some (.string tb) ∧ W.cell? ⟨b, off + j, none⟩ = some (.int .i64 (c j))) ∧ (wr.heap.size ≤ W.heap.size ∧ Below wr.heap.size wr W)) → Below W.heap.size W W' → ((W'.cell? ⟨g, (j + 1) * 5, none⟩ = some (.int .u8 113) ∧ W'.cell? ⟨g, (j + 1) * 5 + 3, none⟩ = some (.string tb) ∧ W'.cell? ⟨b, off + j, none⟩ = some (.int .i64 (c j))) ∧ (wr.heap.size ≤ W'.heap.size ∧ Below wr.heap.size wr W')) from fun W W' h hb' => ⟨⟨(hb'.cell (p := ⟨g, (j + 1) * 5, none⟩) (Nat.lt_of_lt_of_le hgw h.2.1)).trans h.1.1, (hb'.cell (p := ⟨g, (j + 1) * 5 + 3, none⟩) (Nat.lt_of_lt_of_le hgw h.2.1)).trans h.1.2.1, (hb'.cell (p := ⟨b, off + j, none⟩) (Nat.lt_of_lt_of_le hbw h.2.1)).trans h.1.2.2⟩, Nat.le_trans h.2.1 hb'.size, h.2.2.step hb' h.2.1⟩)
              clear n0 n3 n0' n3' cj hev htb hb hz hcc m0 m1 m2
              have q1 : IntKind.i64.wrap ((j : Int) + 1) = (j : Int) + 1 := IntWalk.i64_in _ (by omega)
              have q2 : (j : Int) + 1 < (len : Int) + 1 := by omega
              have q3 : (0 : Int) ≤ (j : Int) + 1 := by omega
              go_upto_region 25 with (fail)
              go_region_held3 (fun w' => (w'.cell? ⟨g, (j + 1) * 5, none⟩ = some (.int .u8 113) ∧ w'.cell? ⟨g, (j + 1) * 5 + 3, none⟩ = some (.string tb) ∧ w'.cell? ⟨b, off + j, none⟩ = some (.int .i64 (c j))) ∧ (wr.heap.size ≤ w'.heap.size ∧ Below wr.heap.size wr w')) (first | exact S1 | exact ⟨S0.1, S0.2.1, S0.2.2.drew⟩ | exact S0)
                (first | (go_at_call 11; refine (HST9.out wr.drew).mono ?_; rintro e w9 ⟨rfl, hb9⟩; have S1 := HSTEP.out wr.drew w9 ⟨S0.1, S0.2.1, S0.2.2.drew⟩ hb9))
              go_wp2_with fail
              go_roundw
              case measure => first | omega | (simp [RowKit.intOf]; done) | (simp [RowKit.intOf]; omega)
              case rel => exact ⟨j + 1, by go_num, by omega, Nat.le_trans HZ9.out S1.2.2.size, HB9.out.step S1.2.2 HB9.out.size⟩
            · have hge3 : ¬ (j : Int) < len := by omega
              clear hb hz m0 m1 m2
              go_wp2_with fail
              go_ret
              exact ⟨rfl, BQ.out.step HB9.out BQ.out.size⟩
        · have hRl : R.toList.isEmpty = false := by
            rw [Lib.toList_data]
            cases h : R.data.toList with
            | nil => exact absurd (ByteArray.ext (Array.toList_inj.1 h)) hR
            | cons _ _ => rfl
          have hic : i ≤ clen := HI.out.resolve_right hR
          have hir : (i : Int) ≤ 100 := by omega
          clear hR
          by_cases hlt : i < clen
          · have hlt' : (i : Int) < clen := by omega
            rcases HD.out with h0 | ⟨b, off, rfl, hbl, hcc⟩
            · exact absurd h0 (by omega)
            have ci := (BQ.out.cell (p := ⟨b, off + i, none⟩) hbl).trans (hcc i hlt)
            have hbw : b < wr.heap.size := by have := BQ.out.size; omega
            have HPK := Lib.hid (fun W => pick_any (d i) (R.size + 1) W (by omega) (by omega) (HDR.out i hlt))
            have hnk : pk (d i) (R.size + 1) < R.size + 1 := pk_lt (d i) (R.size + 1) (by omega)
            generalize pk (d i) (R.size + 1) = nk at HPK hnk
            rw [show (((R.size + 1 : Nat)) : Int) = (R.size : Int) + 1 by omega] at HPK
            clear hcc
            go_wp2_with fail
            refine (HPK.out wr).mono ?_; rintro e w6 ⟨rfl, rfl⟩
            have hnk1 : (nk : Int) ≤ R.size := by omega
            clear ci
            go_wp2_with fail
            have HFE := Lib.hid (feed_st p q v (R.extract 0 nk) K false Lk st wr HFS.out HK.out (by rw [ByteArray.size_extract]; omega))
            refine HFE.out.mono ?_; rintro e w7 ⟨tv, L2, st2, v2, rfl, hR2, hS2, hT2, hv2, hK2⟩
            have B7 := Lib.hid (show Below w.heap.size w w7 from BQ.out.trans (hT2.below (B := w.heap.size) BQ.out.size HP.out.1 HP.out.2 HV.out))
            have HV7 := Lib.hid (show ∀ k, v2.ownBlock = some k → w.heap.size ≤ k from fun k hk => by
              rcases hv2 k hk with hh | hh
              · exact HV.out k hh
              · have := BQ.out.size; omega)
            have HR7 := Lib.hid (HG.out.turned HFS.out hT2 HPL3.out.1 HPL3.out.2)
            have HZ7 := Lib.hid (Nat.le_trans HZ.out hT2.size)
            have hl2 := hK2.size.1
            rw [List.length_append] at hl2
            obtain ⟨L, hL⟩ : ∃ L, L = Lk ++ L2 := ⟨_, rfl⟩
            have hKsz : (K ++ (R.extract 0 nk)).size ≤ 14010 := by (try rw [ByteArray.size_append]); rw [ByteArray.size_extract]; omega
            obtain ⟨v3, w8, hrun, hR3, hg3, hf3⟩ := krow_append HR7.out hR2 (by omega) HZ7.out
            rw [← hL] at hR3 hK2
            have HK8 := Lib.hid hK2
            have HS8 := Lib.hid (hS2.grownBy HR7.out hg3 HPL3.out.1 HPL3.out.2)
            have B8 := Lib.hid (show Below w.heap.size w w8 from B7.out.grown hg3 B7.out.size (fun k hk => Nat.le_trans B3.out.size (HR7.out.lt k hk).1))
            have HZ8 := Lib.hid (Nat.le_trans HZ7.out hg3.size)
            have HR8 := Lib.hid hR3
            obtain ⟨v3a, v3c, rfl⟩ := hR3.form
            have HRUN := Lib.hid hrun
            clear hrun hR2 hS2 hT2 hv2 hK2 hR3 hg3 hf3 hl2 hL hKsz hlk HFE
            go_wp2_with (at_builtin; refine run_eq_walk rfl (.tmp 76) (.tmp 81) 32 rfl _ _ rfl rfl _ _ HRUN.out ?_)
            go_roundw
            case measure => first | omega | (simp [RowKit.intOf]; done) | (simp [RowKit.intOf]; omega)
            case rel => exact ⟨i + 1, R.extract nk R.size, K ++ (R.extract 0 nk), L, st2, v2, by go_num, rfl, (by rw [append_three, cut_two R nk (by omega)]; exact HSK.out), HK8.out, HR8.out, HS8.out, HV7.out, B8.out, HZ8.out, .inl (by omega)⟩
          · obtain rfl : i = clen := by omega
            have hge2 : ¬ (i : Int) < i := by omega
            go_wp2_with fail
            have HFE := Lib.hid (feed_st p q v R K false Lk st wr HFS.out HK.out (by omega))
            refine HFE.out.mono ?_; rintro e w7 ⟨tv, L2, st2, v2, rfl, hR2, hS2, hT2, hv2, hK2⟩
            have B7 := Lib.hid (show Below w.heap.size w w7 from BQ.out.trans (hT2.below (B := w.heap.size) BQ.out.size HP.out.1 HP.out.2 HV.out))
            have HV7 := Lib.hid (show ∀ k, v2.ownBlock = some k → w.heap.size ≤ k from fun k hk => by
              rcases hv2 k hk with hh | hh
              · exact HV.out k hh
              · have := BQ.out.size; omega)
            have HR7 := Lib.hid (HG.out.turned HFS.out hT2 HPL3.out.1 HPL3.out.2)
            have HZ7 := Lib.hid (Nat.le_trans HZ.out hT2.size)
            have hl2 := hK2.size.1
            rw [List.length_append] at hl2
            obtain ⟨L, hL⟩ : ∃ L, L = Lk ++ L2 := ⟨_, rfl⟩
            have hKsz : (K ++ R).size ≤ 14010 := by (try rw [ByteArray.size_append]); omega
            obtain ⟨v3, w8, hrun, hR3, hg3, hf3⟩ := krow_append HR7.out hR2 (by omega) HZ7.out
            rw [← hL] at hR3 hK2
            have HK8 := Lib.hid hK2
            have HS8 := Lib.hid (hS2.grownBy HR7.out hg3 HPL3.out.1 HPL3.out.2)
            have B8 := Lib.hid (show Below w.heap.size w w8 from B7.out.grown hg3 B7.out.size (fun k hk => Nat.le_trans B3.out.size (HR7.out.lt k hk).1))
            have HZ8 := Lib.hid (Nat.le_trans HZ7.out hg3.size)
            have HR8 := Lib.hid hR3
            obtain ⟨v3a, v3c, rfl⟩ := hR3.form
            have HRUN := Lib.hid hrun
            clear hrun hR2 hS2 hT2 hv2 hK2 hR3 hg3 hf3 hl2 hL hKsz hlk HFE
            go_wp2_with (at_builtin; refine run_eq_walk rfl (.tmp 76) (.tmp 81) 32 rfl _ _ rfl rfl _ _ HRUN.out ?_)
            go_roundw
            case measure => first | omega | (simp [RowKit.intOf]; done) | (simp [RowKit.intOf]; omega)
            case rel => exact ⟨i + 1, { data := #[] }, K ++ R, L, st2, v2, by go_num, rfl, (by rw [append_empty]; exact HSK.out), HK8.out, HR8.out, HS8.out, HV7.out, B8.out, HZ8.out, .inr rfl⟩
set_option maxRecDepth 100000 in
theorem cuts_lifted (os : Os) (started : os.Started) (H : Type) (enc : TypeId × Value → H) :
    ReturnsInHanded {} Tryd.checked os 3 .any (fun w args => (Rows.frontCutsSpec.pre enc Tryd.prog Tryd.f3 Rows.frontCutsRow.domain false w args ∧ laidMetH Tryd.prog [("unicode/utf8.acceptRanges", Rows.laid_unicode_utf8_acceptRanges), ("unicode/utf8.first", Rows.laid_unicode_utf8_first)] w) ∧ sizedMet enc Tryd.prog Tryd.f3 (OpenSpec.ofChange Rows.frontCutsSpec) false w args) (Rows.frontCutsSpec.post enc Tryd.prog Tryd.f3 false true false false) := by
  refine handed_laid (C := Tryd.checked) (X := fun w _ => laidMetH Tryd.prog [("unicode/utf8.acceptRanges", Rows.laid_unicode_utf8_acceptRanges), ("unicode/utf8.first", Rows.laid_unicode_utf8_first)] w) (fun _ _ _ hh h => h.of_heap hh) own started (by kernel_rfl) Tryd.func3
    (ChangeSpec.witness_shaped (enc := enc) (C := Tryd.checked) (os := os) (X := fun w _ => laidMetH Tryd.prog [("unicode/utf8.acceptRanges", Rows.laid_unicode_utf8_acceptRanges), ("unicode/utf8.first", Rows.laid_unicode_utf8_first)] w) false (World.laidAll Tryd.prog os [("unicode/utf8.acceptRanges", Rows.laid_unicode_utf8_acceptRanges), ("unicode/utf8.first", Rows.laid_unicode_utf8_first)]) #[.slice none 0 0, .slice none 0 0] 8 (World.laidAll_os _ _ _) (World.shaped_of_ZipB (by kernel_rfl) (by kernel_rfl)) (by kernel_rfl) (by kernel_rfl) (by kernel_rfl)
      (by rw [MakeChecks.laidMetH_plain _ _ _ (by kernel_rfl)]; exact laidMet_laidAll _ (by kernel_rfl) (by kernel_rfl))) ?_
  intro W base args ds gs before hval0 hW hsz0 _ _
  have hsz : (DataW.weightsEach Tryd.prog (Tryd.f3.params.toList ++ Rows.frontCutsSpec.plain.varTypes Tryd.prog) (ds ++ gs)).all (· ≤ reachBytes) = true := hsz0
  clear hsz0
  have hval : ∀ (j : Nat) t v, Tryd.f3.params[j]? = some t → args[j]? = some v → Value.okWide Tryd.prog W .any base t v := hval0
  have hW' := hW
  obtain ⟨p, q, hA0, hV, rfl, _, _⟩ := hW
  have hA : DataW.TrodAll enc Tryd.prog W 0 (fun _ => true) true Tryd.f3.params.toList args.toList ds p := hA0
  rw [Tryd.params3] at hA hval hsz
  obtain ⟨v0, v1, d0, d1, p0, p1, rfl, rfl, rfl, h0, h1⟩ := trodAll_two hA
  obtain ⟨rfl, rfl⟩ := trodVars_none hV
  obtain ⟨a0, len, cap, rfl⟩ := okWide_slice Tryd.underlying22 (hval 0 22 v0 rfl rfl)
  obtain ⟨c, hcr, hC⟩ := open_row h0
  obtain ⟨a1, clen, ccap, rfl⟩ := okWide_slice Tryd.underlying22 (hval 1 22 v1 rfl rfl)
  obtain ⟨d, hdr, hD⟩ := open_row h1
  refine (cuts_walk a0 len cap c a1 clen ccap d W hC hcr hD hdr).mono fun e W' ⟨he, hb⟩ => ?_
  subst he
  exact ⟨_, rfl, law_shut laidOut (by kernel_rfl) (by kernel_rfl) Tryd.underlying4 rfl hW' rfl hb⟩

theorem cuts_holds : Rows.FrontCutsSaid :=
  OpenClaim.holds_of_wide 3 Tryd.f3 rfl rfl rfl rfl rfl rfl rfl ⟨rfl, rfl, rfl, rfl, rfl⟩ rfl rfl rfl rfl rfl (by kernel_rfl) Tryd.func3 (by kernel_rfl)
    (of_decide_eq_true (by kernel_rfl)) (by unfold Func.isWrapper; rw [if_neg (of_decide_eq_false (by kernel_rfl))]; exact ⟨rfl, rfl⟩)
    (fun os started H enc _ => cuts_lifted os started H enc)

theorem cuts_card : Rows.FrontCutsCardSaid :=
  Claim7.holds_tied_plain_at .later [] [.data, .pinned] true _ false cuts_holds (fun _ h => by cases h) (by kernel_rfl) (fun _ h => by cases h) frontCuts_row_tie rfl ⟨rfl, rfl⟩ (by kernel_rfl) rfl
    (fun f fn hf hfn => by
      obtain rfl : f = 3 := Option.some.inj ((show Tryd.prog.funcNamed "taxirank/taxiranklaw18.FrontCuts" = some 3 by kernel_rfl).symm.trans hf) |>.symm
      obtain rfl : fn = Tryd.f3 := (Option.some.inj (Tryd.func3.symm.trans hfn)).symm
      exact ⟨by kernel_rfl, fun j t ht => by
        rw [Tryd.params3] at ht
        have hm : t ∈ [22, 22] := by simpa using Array.mem_of_getElem? ht
        have hall : ([22, 22].all fun u => !Tryd.prog.wantsStandIn u) = true := by kernel_rfl
        exact (show Tryd.prog.wantsStandIn t = false by simpa using List.all_eq_true.1 hall t hm)⟩)
    (by kernel_rfl)
end Go.Proofs.YtmofnkinclckoaaDoor
