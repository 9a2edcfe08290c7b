/- Contracts and mathematics: QRSmall, NRefPart, NRefGood. -/
import Derived.Test.YtgopajddloeclaaDoorZ32
import Derived.Test.YtgopajddloeclaaDoorZ4
namespace Go.Proofs.YtgopajddloeclaaDoor
open Go.RowKit Go.Lib Go.WideShapes

set_option maxRecDepth 100000 in
set_option maxHeartbeats 4000000 in
theorem rwork_any (p : Nat) (L : List Tok) (w : World) (h : RestAt w p L) :
    Calls Tryd.prog 51 #[.pointer (some ⟨p, 0, none⟩)] w (ROut w p (.tuple #[]) (workW L)) := by
  have H1 := Lib.hid (rword_any p { data := #[119, 111, 114, 107] } L w h)
  have HM := Lib.hid (show workW L = if beginsW L w_work then L.drop 1 else wordR L w_transaction from by
    unfold workW wordR
    cases beginsW L w_work <;> cases beginsW L w_transaction <;> rfl)
  have e1 : bytes { data := #[119, 111, 114, 107] } = w_work := rfl
  rw [e1] at H1
  clear h e1
  go_enter Tryd.func51, Tryd.ntmps51
  go_wp2_with fail
  refine H1.out.mono ?_; rintro e w1 ⟨rfl, hR, hT⟩
  have HT := Lib.hid hT
  cases hb : beginsW L w_work with
  | true =>
    have HR := Lib.hid (show RestAt w1 p (workW L) from by rw [HM.out, if_pos hb]; unfold wordR at hR; rw [if_pos hb] at hR; exact hR)
    clear hR hT hb
    go_wp2_with fail
    go_end0
    exact ⟨rfl, HR.out, HT.out⟩
  | false =>
    have hR2 : RestAt w1 p L := by unfold wordR at hR; rw [if_neg (by rw [hb]; decide)] at hR; exact hR
    have H2 := Lib.hid (rword_any p { data := #[116, 114, 97, 110, 115, 97, 99, 116, 105, 111, 110] } L w1 hR2)
    have HM2 := Lib.hid (show workW L = wordR L w_transaction from by rw [HM.out, if_neg (by rw [hb]; decide)])
    clear hR hT hb hR2
    go_wp2_with fail
    refine H2.out.mono ?_; rintro e w2 ⟨rfl, hR, hT⟩
    have HR := Lib.hid (show RestAt w2 p (workW L) from by rw [HM2.out]; exact hR)
    have HT2 := Lib.hid (HT.out.trans hT)
    clear hR hT
    go_wp2_with fail
    go_end0
    exact ⟨rfl, HR.out, HT2.out⟩
/-- A command, and what was done. -/
def COut (w : World) (p : Nat) (C : Cmd) (e : Ending) (w' : World) : Prop := e = .returned C.val ∧ TurnedR w w' p
def orNone (q : Cmd × Bool) : Cmd := if q.2 then q.1 else noCmd
set_option maxRecDepth 100000 in
set_option maxHeartbeats 4000000 in
theorem rends_any (p : Nat) (k : UInt8) (L : List Tok) (w : World) (h : RestAt w p L) :
    Calls Tryd.prog 50 #[.pointer (some ⟨p, 0, none⟩), .int .u8 (k.toNat : Nat)] w (COut w p (orNone (⟨k, [], []⟩, L.length == 0))) := by
  obtain ⟨a, c, hC, _⟩ := h
  have c0 := hC.cell
  have hp := hC.lt
  have HB := Lib.hid (show ∀ x0 x1 x2, TurnedR w (w.alloc (.cells #[x0, x1, x2] 31)) p from fun _ _ _ => TurnedR.below ((Below.refl _ _).alloc (Nat.le_refl _) _))
  obtain ⟨n, hn⟩ : ∃ n, n = L.length := ⟨_, rfl⟩
  rw [← hn] at c0 ⊢
  obtain ⟨kc, hkc⟩ : ∃ z : Int, z = (k.toNat : Nat) := ⟨_, rfl⟩
  rw [← hkc]
  have HK := Lib.hid hkc
  clear hC hn hkc
  obtain ⟨C, hCC⟩ : ∃ C, C = orNone (⟨k, [], []⟩, n == 0) := ⟨_, rfl⟩
  have HCC := Lib.hid hCC
  rw [← hCC]
  clear hCC
  cases n with
  | zero =>
    go_enter Tryd.func50, Tryd.ntmps50
    go_wp2_with fail
    simp [bodyPost, results, Tryd.results50, go_sem]
    exact ⟨by rw [HCC.out, HK.out]; rfl, HB.out _ _ _⟩
  | succ m =>
    have hm : (0 : Int) < ((m + 1 : Nat) : Int) := by omega
    go_enter Tryd.func50, Tryd.ntmps50
    go_wp2_with fail
    simp [bodyPost, results, Tryd.results50, go_sem]
    exact ⟨by rw [HCC.out]; rfl, HB.out _ _ _⟩
def pointV (L : List Tok) : Bs × Bool := match L with
  | [t] => if nm t then (t.text, true) else ([], false)
  | _ => ([], false)
theorem point_of (k : UInt8) (L : List Tok) : orNone (pointC k L) = if (pointV L).2 then ⟨k, (pointV L).1, []⟩ else noCmd := by
  unfold pointC pointV
  match L with
  | [] => rfl
  | [t] => by_cases h : nm t = true <;> simp [h, orNone]
  | _ :: _ :: _ => rfl
set_option maxRecDepth 100000 in
set_option maxHeartbeats 4000000 in
theorem rpoint_any (p : Nat) (L : List Tok) (w : World) (h : RestAt w p L) :
    Calls Tryd.prog 77 #[.pointer (some ⟨p, 0, none⟩)] w fun e w' => e = .returned (.tuple #[.string ⟨(pointV L).1.toArray⟩, .bool (pointV L).2]) ∧ w' = w := by
  obtain ⟨a, c, hC, hc, h9, hn, hT, hx⟩ := h
  have c0 := hC.cell
  have hp := hC.lt
  cases L with
  | nil =>
    go_enter Tryd.func77, Tryd.ntmps77
    go_wp2_with fail
    go_ret2
    exact ⟨rfl, rfl⟩
  | cons t r =>
    cases r with
    | nil =>
      obtain ⟨g, off, rfl, hg, hT'⟩ := hT.first
      obtain ⟨_, a0, a1, _⟩ := hT'.get (i := 0) rfl
      rw [Nat.zero_mul, Nat.add_zero] at a0 a1
      have hcc : (1 : Int) ≤ c := by have : [t].length ≤ c := hc; simp at this; omega
      have hl1 : ([t].length : Nat) = 1 := rfl
      rw [hl1] at c0
      have hnm : nm t = (decide (t.kind.toNat = 119) || decide (t.kind.toNat = 113)) := by
        show (t.kind == 119 || t.kind == 113) = _
        rw [kind_eq, kind_eq]; rfl
      obtain ⟨V, hV⟩ : ∃ V, V = pointV [t] := ⟨_, rfl⟩
      have HV := Lib.hid (show V = if nm t then (t.text, true) else ([], false) from hV)
      rw [← hV]
      have HNM := Lib.hid hnm
      obtain ⟨XT, hXT⟩ : ∃ z : ByteArray, z = ⟨t.text.toArray⟩ := ⟨_, rfl⟩
      have HX := Lib.hid hXT
      rw [← hXT] at a1
      clear hC hT hT' hx hc hn hnm hV hXT
      obtain ⟨kk, hkk⟩ : ∃ z, z = t.kind.toNat := ⟨_, rfl⟩
      rw [← hkk] at a0 HNM
      clear hkk
      by_cases h1 : kk = 119
      · have q1 : ((kk : Int) != 119) = false := by rw [h1]; rfl
        obtain rfl : V = (t.text, true) := by rw [HV.out, HNM.out, h1]; rfl
        clear h1
        go_enter Tryd.func77, Tryd.ntmps77
        go_wp2_with fail
        go_ret2
        exact ⟨by rw [HX.out]; rfl, rfl⟩
      · have q1 : ((kk : Int) != 119) = true := by rw [bne_iff_ne]; omega
        by_cases h2 : kk = 113
        · have q2 : ((kk : Int) != 113) = false := by rw [h2]; rfl
          obtain rfl : V = (t.text, true) := by rw [HV.out, HNM.out, h2]; rfl
          clear h1 h2
          go_enter Tryd.func77, Tryd.ntmps77
          go_wp2_with fail
          go_ret2
          exact ⟨by rw [HX.out]; rfl, rfl⟩
        · have q2 : ((kk : Int) != 113) = true := by rw [bne_iff_ne]; omega
          obtain rfl : V = ([], false) := by rw [HV.out, HNM.out, decide_eq_false h1, decide_eq_false h2]; rfl
          clear h1 h2
          go_enter Tryd.func77, Tryd.ntmps77
          go_wp2_with fail
          go_ret2
          exact ⟨rfl, rfl⟩
    | cons u r =>
      obtain ⟨n, hnn⟩ : ∃ n, n = (t :: u :: r).length := ⟨_, rfl⟩
      have hn1 : ((n : Int) != 1) = true := by rw [bne_iff_ne, hnn]; simp; omega
      rw [← hnn] at c0
      clear hC hT hx hc hn hnn
      go_enter Tryd.func77, Tryd.ntmps77
      go_wp2_with fail
      go_ret2
      exact ⟨rfl, rfl⟩
set_option maxRecDepth 100000 in
set_option maxHeartbeats 4000000 in
theorem rat_any (p : Nat) (k : UInt8) (L : List Tok) (w : World) (h : RestAt w p L) :
    Calls Tryd.prog 53 #[.pointer (some ⟨p, 0, none⟩), .int .u8 (k.toNat : Nat)] w (COut w p (orNone (pointC k L))) := by
  have HB := Lib.hid (show ∀ x0 x1 x2, TurnedR w (w.alloc (.cells #[x0, x1, x2] 31)) p from fun _ _ _ => TurnedR.below ((Below.refl _ _).alloc (Nat.le_refl _) _))
  have HP := Lib.hid (rpoint_any p L (w.alloc (.cells #[.int .u8 0, .string { data := #[] }, .string { data := #[] }] 31)) (h.grown ((Below.refl _ _).alloc (Nat.le_refl _) _)))
  obtain ⟨C, hC⟩ : ∃ C, C = orNone (pointC k L) := ⟨_, rfl⟩
  have HC := Lib.hid (hC.trans (point_of k L))
  rw [← hC]
  obtain ⟨V, hV⟩ : ∃ V, V = pointV L := ⟨_, rfl⟩
  rw [← hV] at HP HC
  obtain ⟨x, b⟩ := V
  obtain ⟨kc, hkc⟩ : ∃ z : Int, z = (k.toNat : Nat) := ⟨_, rfl⟩
  rw [← hkc]
  have HK := Lib.hid hkc
  clear h hC hV hkc
  go_enter Tryd.func53, Tryd.ntmps53
  go_wp2_with fail
  refine HP.out.mono ?_; rintro e w1 ⟨rfl, rfl⟩
  cases b with
  | true =>
    go_wp2_with fail
    simp [bodyPost, results, Tryd.results53, go_sem]
    exact ⟨by rw [HC.out, HK.out]; rfl, HB.out _ _ _⟩
  | false =>
    go_wp2_with fail
    simp [bodyPost, results, Tryd.results53, go_sem]
    exact ⟨by rw [HC.out]; rfl, HB.out _ _ _⟩
end Go.Proofs.YtgopajddloeclaaDoor

namespace Go.Proofs.YtgopajddloeclaaDoor
open Go.RowKit Go.Lib Go.WideShapes

set_option maxRecDepth 100000 in
set_option maxHeartbeats 2000000 in
theorem refpart_any (s : ByteArray) (w : World) (hs : s.size ≤ 9223372036854775807) :
    Calls Tryd.prog 117 #[.string s] w fun e w' => e = .returned (.bool (partB (bytes s))) ∧ w = w' := by
  obtain ⟨R, hR⟩ : ∃ R, R = partB (bytes s) := ⟨_, rfl⟩
  rw [← hR]
  have HR := Lib.hid hR
  clear hR
  by_cases h0 : s.size = 0
  · have HF := Lib.hid (show R = false by rw [HR.out, show bytes s = [] from List.length_eq_zero_iff.1 (by rw [bytes_len]; exact h0)]; rfl)
    obtain rfl : s = { data := #[] } := by
      apply ByteArray.ext
      exact Array.eq_empty_of_size_eq_zero h0
    clear h0
    go_enter Tryd.func117, Tryd.ntmps117
    go_wp2_with fail
    go_loopg [3] 0 (fun g v wr => v = .int .i64 0 ∧ g = 0 ∧ wr = w)
    case atStart => exact ⟨rfl, rfl, rfl⟩
    case round =>
      obtain ⟨rfl, hg, rfl⟩ := hrel
      clear hg
      go_wp2_with fail
      go_ret
      exact ⟨by rw [HF.out]; rfl, rfl⟩
  have hs0 : 0 < s.size := by omega
  have hne : s.toList.isEmpty = false := str_some s hs0
  go_enter Tryd.func117, Tryd.ntmps117
  go_wp2_with fail
  go_loopg [3] s.size (fun g v wr => ∃ k : Nat, v = .int .i64 k ∧ k ≤ s.size ∧ g = s.size - k ∧ wr = w ∧ okTo (bytes s) k)
  case atStart => exact ⟨0, rfl, Nat.zero_le _, rfl, rfl, fun i _ h => absurd h (Nat.not_lt_zero _)⟩
  case round =>
    obtain ⟨k, rfl, hk, hg, rfl, ho⟩ := hrel
    have HO := Lib.hid ho; have HG := Lib.hid hg
    clear ho hg
    by_cases hlt : k < s.size
    · have hlt' : (k : Int) < s.size := by omega
      have hkl : k < (bytes s).length := by rw [bytes_len]; exact hlt
      have HB := Lib.hid (partB_take (bytes s) k hkl)
      have HL := Lib.hid (lowB_nat s[k])
      have HD := Lib.hid (digB_nat s[k])
      have HST := Lib.hid (okTo_step HO.out hlt)
      have hc : ((97 : Int) ≤ s[k].toNat ∧ (s[k].toNat : Int) ≤ 122) ∨ s[k].toNat = 95 ∨ ((48 : Int) ≤ s[k].toNat ∧ (s[k].toNat : Int) ≤ 57) ∨ (s[k].toNat : Int) < 48 ∨ ((57 : Int) < s[k].toNat ∧ (s[k].toNat : Int) < 95) ∨ s[k].toNat = 96 ∨ (122 : Int) < s[k].toNat := by omega
      rcases hc with ⟨a1, a2⟩ | hc | ⟨a1, a2⟩ | a1 | ⟨a1, a2⟩ | hc | a1
      · have HX := Lib.hid (HST.out (.inl (by rw [HL.out]; simp; omega)))
        have b2 : ((s[k].toNat : Int) != 95) = true := by simp; omega
        go_wp2_with fail
        go_roundg (s.size - (k + 1))
        case measure => have := HG.out; omega
        case rel => exact ⟨k + 1, by go_num, by omega, rfl, rfl, HX.out⟩
      · have HX := Lib.hid (HST.out (.inl (by rw [HL.out]; simp; omega)))
        have b2 : ((s[k].toNat : Int) != 95) = false := by simp; omega
        clear hc
        go_wp2_with fail
        go_roundg (s.size - (k + 1))
        case measure => have := HG.out; omega
        case rel => exact ⟨k + 1, by go_num, by omega, rfl, rfl, HX.out⟩
      all_goals
        have b1 : (s[k].toNat : Int) < 97 ∨ ((97 : Int) ≤ s[k].toNat ∧ (122 : Int) < s[k].toNat) := by omega
        have b2 : ((s[k].toNat : Int) != 95) = true := by simp; omega
        have HLF := Lib.hid (show lowB s[k] = false by rw [HL.out]; simp; omega)
        rcases b1 with b1 | ⟨b0, b1⟩
        all_goals first | (exfalso; omega) | skip
        all_goals
          by_cases hk0 : k = 0
          · have HF := Lib.hid (show R = false by rw [HR.out]; exact HB.out.1 hk0 HLF.out)
            subst hk0
            try clear hc
            clear HB HL HD HST HLF
            go_wp2_with fail
            go_ret
            exact ⟨by rw [HF.out]; rfl, rfl⟩
          · have hk1 : 0 < k := by omega
            have hk2 : ((k : Int) == 0) = false := by simp; omega
            clear hk0
            first
              | (have d1 : (48 : Int) ≤ s[k].toNat := by omega
                 have d2 : (s[k].toNat : Int) ≤ 57 := by omega
                 have HX := Lib.hid (HST.out (.inr ⟨hk1, by rw [HD.out]; simp; omega⟩))
                 go_wp2_with fail
                 go_roundg (s.size - (k + 1))
                 case measure => have := HG.out; omega
                 case rel => exact ⟨k + 1, by go_num, by omega, rfl, rfl, HX.out⟩)
              | (have HF := Lib.hid (show R = false by rw [HR.out]; exact HB.out.2 HLF.out (by show digB s[k] = false; rw [HD.out]; simp; omega))
                 first
                   | (have d1 : (s[k].toNat : Int) < 48 := by omega
                      go_wp2_with fail
                      go_ret
                      exact ⟨by rw [HF.out]; rfl, rfl⟩)
                   | (have d1 : (48 : Int) ≤ s[k].toNat := by omega
                      have d2 : (57 : Int) < s[k].toNat := by omega
                      try clear hc
                      go_wp2_with fail
                      go_ret
                      exact ⟨by rw [HF.out]; rfl, rfl⟩))
    · obtain rfl : k = s.size := by omega
      have HT := Lib.hid (show R = true by rw [HR.out]; exact okTo_end (by rw [bytes_len]; exact HO.out) (fun e => by have := bytes_len s; rw [e] at this; simp at this; omega))
      go_wp2_with fail
      go_ret
      exact ⟨by rw [HT.out]; rfl, rfl⟩
end Go.Proofs.YtgopajddloeclaaDoor

namespace Go.Proofs.YtgopajddloeclaaDoor
open Go.RowKit Go.Lib Go.WideShapes

theorem gbytes_cut (a : ByteArray) (i j : Nat) : bytes (a.extract i j) = ((bytes a).drop i).take (j - i) := by
  unfold bytes
  rw [ByteArray.data_extract, Array.toList_extract]

theorem good_dot {s : ByteArray} {k : Nat} (hk : k < s.size) (h : (46 : UInt8) ∉ (bytes s).take k) (hc : s[k].toNat = 46) : goodB (bytes s) = (decide (s.size ≤ 63) && (partB (bytes (s.extract 0 k)) && partB (bytes (s.extract (k + 1) s.size)))) := by
  have hkl : k < (bytes s).length := by rw [bytes_len]; exact hk
  have e : bytes s = (bytes s).take k ++ 46 :: (bytes s).drop (k + 1) := by
    conv => lhs; rw [← List.take_append_drop k (bytes s), List.drop_eq_getElem_cons hkl]
    rw [bytes_get s k hk, show s[k] = 46 from UInt8.toNat_inj.1 hc]
  have h1 : bytes (s.extract 0 k) = (bytes s).take k := by rw [gbytes_cut]; simp
  have h2 : bytes (s.extract (k + 1) s.size) = (bytes s).drop (k + 1) := by rw [gbytes_cut, List.take_of_length_le]; rw [List.length_drop, bytes_len]; omega
  have hcut : Lib.cut (bytes s) [46] = ((bytes s).take k, (bytes s).drop (k + 1), true) := by
    conv => lhs; rw [e]
    exact cut_at h _
  unfold goodB
  rw [hcut, bytes_len, h1, h2]; rfl
theorem good_plain {s : ByteArray} (h : (46 : UInt8) ∉ bytes s) : goodB (bytes s) = (decide (s.size ≤ 63) && partB (bytes s)) := by
  unfold goodB
  rw [cut_none h, bytes_len]; simp
theorem dot_next {s : ByteArray} {k : Nat} (hk : k < s.size) (h : (46 : UInt8) ∉ (bytes s).take k) (hc : ¬ s[k].toNat = 46) : (46 : UInt8) ∉ (bytes s).take (k + 1) := by
  have hkl : k < (bytes s).length := by rw [bytes_len]; exact hk
  rw [List.take_succ_eq_append_getElem hkl]
  intro e
  rcases List.mem_append.1 e with e | e
  · exact h e
  · have := List.mem_singleton.1 e
    rw [bytes_get s k hk] at this
    exact hc (by rw [← this]; rfl)

set_option maxRecDepth 100000 in
set_option maxHeartbeats 2000000 in
theorem refgood_any (s : ByteArray) (w : World) (hs : s.size ≤ 100000) :
    Calls Tryd.prog 105 #[.string s] w fun e w' => e = .returned (.bool (goodB (bytes s))) ∧ w = w' := by
  obtain ⟨R, hR⟩ : ∃ R, R = goodB (bytes s) := ⟨_, rfl⟩
  rw [← hR]
  have HR := Lib.hid hR
  have HP := Lib.hid (fun (S : ByteArray) W h => refpart_any S W h)
  clear hR
  go_enter Tryd.func105, Tryd.ntmps105
  go_wp2_with fail
  go_loopg [3] s.size (fun g v wr => ∃ k : Nat, v = .int .i64 k ∧ k ≤ s.size ∧ g = s.size - k ∧ wr = w ∧ (46 : UInt8) ∉ (bytes s).take k)
  case atStart => exact ⟨0, rfl, Nat.zero_le _, rfl, rfl, by simp⟩
  case round =>
    obtain ⟨k, rfl, hk, hg, rfl, ho⟩ := hrel
    have HO := Lib.hid ho; have HG := Lib.hid hg
    clear ho hg
    by_cases hlt : k < s.size
    · have hlt' : (k : Int) < s.size := by omega
      by_cases hc : s[k].toNat = 46
      · have hb : ((s[k].toNat : Int) == 46) = true := by simp; omega
        have HE := Lib.hid (good_dot hlt HO.out hc)
        have hz1 : (s.extract 0 k).size ≤ 9223372036854775807 := by rw [ByteArray.size_extract]; omega
        have hz2 : (s.extract (k + 1) s.size).size ≤ 9223372036854775807 := by rw [ByteArray.size_extract]; omega
        have HZ1 := Lib.hid hz1; have HZ2 := Lib.hid hz2
        have hk1 : (k : Int) + 1 ≤ s.size := by omega
        clear hc hz1 hz2
        go_wp2_with fail
        refine (HP.out _ wr HZ1.out).mono ?_; rintro e w1 ⟨rfl, rfl⟩
        cases h1 : partB (bytes (s.extract 0 k)) with
        | false =>
          have HF := Lib.hid (show R = false by rw [HR.out, HE.out, h1]; simp)
          clear h1
          go_wp2_with fail
          go_ret
          exact ⟨by rw [HF.out]; rfl, rfl⟩
        | true =>
          have H1 := Lib.hid h1
          clear h1
          go_wp2_with fail
          refine (HP.out _ wr HZ2.out).mono ?_; rintro e w1 ⟨rfl, rfl⟩
          cases h2 : partB (bytes (s.extract (k + 1) s.size)) with
          | false =>
            have HF := Lib.hid (show R = false by rw [HR.out, HE.out, h2]; simp)
            clear h2
            go_wp2_with fail
            go_ret
            exact ⟨by rw [HF.out]; rfl, rfl⟩
          | true =>
            have H2 := Lib.hid h2
            clear h2
            by_cases h3 : s.size ≤ 63
            · have h3' : (s.size : Int) ≤ 63 := by omega
              have HF := Lib.hid (show R = true by rw [HR.out, HE.out, H1.out, H2.out]; simpa using h3)
              clear h3
              go_wp2_with fail
              go_ret
              exact ⟨by rw [HF.out]; simp <;> omega, rfl⟩
            · have h3' : (63 : Int) < s.size := by omega
              have HF := Lib.hid (show R = false by rw [HR.out, HE.out, decide_eq_false h3]; rfl)
              clear h3
              go_wp2_with fail
              go_ret
              exact ⟨by rw [HF.out]; simp <;> omega, rfl⟩
      · have hb : ((s[k].toNat : Int) == 46) = false := by simp; omega
        have HX := Lib.hid (dot_next hlt HO.out hc)
        clear hc
        go_wp2_with fail
        go_roundg (s.size - (k + 1))
        case measure => have := HG.out; omega
        case rel => exact ⟨k + 1, by go_num, by omega, rfl, rfl, HX.out⟩
    · obtain rfl : k = s.size := by omega
      have HE := Lib.hid (good_plain (s := s) (by have := HO.out; rwa [List.take_of_length_le (by rw [bytes_len]; exact Nat.le_refl _)] at this))
      go_wp2_with fail
      refine (HP.out s wr (by omega)).mono ?_; rintro e w1 ⟨rfl, rfl⟩
      cases h1 : partB (bytes s) with
      | false =>
        have HF := Lib.hid (show R = false by rw [HR.out, HE.out, h1]; simp)
        clear h1
        go_wp2_with fail
        go_ret
        exact ⟨by rw [HF.out]; rfl, rfl⟩
      | true =>
        have H1 := Lib.hid h1
        clear h1
        by_cases h3 : s.size ≤ 63
        · have h3' : (s.size : Int) ≤ 63 := by omega
          have HF := Lib.hid (show R = true by rw [HR.out, HE.out, H1.out]; simpa using h3)
          clear h3
          go_wp2_with fail
          go_ret
          exact ⟨by rw [HF.out]; simp <;> omega, rfl⟩
        · have h3' : (63 : Int) < s.size := by omega
          have HF := Lib.hid (show R = false by rw [HR.out, HE.out, decide_eq_false h3]; rfl)
          clear h3
          go_wp2_with fail
          go_ret
          exact ⟨by rw [HF.out]; simp <;> omega, rfl⟩
end Go.Proofs.YtgopajddloeclaaDoor
