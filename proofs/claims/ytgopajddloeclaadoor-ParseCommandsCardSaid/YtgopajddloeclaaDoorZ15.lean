/- Contracts and mathematics: PValue, PSetM, PSetA, PSetB. -/
import Derived.Test.YtgopajddloeclaaDoorZ14
namespace Go.Proofs.YtgopajddloeclaaDoor
open Go.RowKit Go.Lib Go.WideShapes

def ValOut (q : Bs × Bool) (w : World) (e : Ending) (w' : World) : Prop := e = .returned (.tuple #[.string ⟨q.1.toArray⟩, .bool q.2]) ∧ Below w.heap.size w w'

set_option maxRecDepth 100000 in
set_option maxHeartbeats 4000000 in
theorem value_one (g off c : Nat) (kk : Nat) (XT : ByteArray) (w : World) (a0 : w.cell? ⟨g, off, none⟩ = some (.int .u8 kk)) (a1 : w.cell? ⟨g, off + 1, none⟩ = some (.string XT)) :
    Calls Tryd.prog 73 #[.slice (some ⟨g, off, none⟩) 1 c] w fun e w' => e = .returned (.tuple #[.string XT, .bool ((decide (kk = 115) || decide (kk = 119)) || decide (kk = 110))]) ∧ Below w.heap.size w w' := by
  by_cases h1 : kk = 115
  · have hb : ((kk : Int) == 115) = true := by simp; omega
    rw [decide_eq_true h1]
    clear h1
    go_enter Tryd.func73, Tryd.ntmps73
    go_wp2_with fail
    go_ret2
    exact ⟨rfl, Below.refl _ _⟩
  · have hb : ((kk : Int) == 115) = false := by simp; omega
    rw [decide_eq_false h1]
    by_cases h2 : kk = 119
    · have hb2 : ((kk : Int) == 119) = true := by simp; omega
      rw [decide_eq_true h2]
      clear h1 h2
      go_enter Tryd.func73, Tryd.ntmps73
      go_wp2_with fail
      go_ret2
      exact ⟨rfl, Below.refl _ _⟩
    · have hb2 : ((kk : Int) == 119) = false := by simp; omega
      rw [decide_eq_false h2]
      by_cases h3 : kk = 110
      · have hb3 : ((kk : Int) == 110) = true := by simp; omega
        rw [decide_eq_true h3]
        clear h1 h2 h3
        go_enter Tryd.func73, Tryd.ntmps73
        go_wp2_with fail
        go_ret2
        exact ⟨rfl, Below.refl _ _⟩
      · have hb3 : ((kk : Int) == 110) = false := by simp; omega
        rw [decide_eq_false h3]
        clear h1 h2 h3
        go_enter Tryd.func73, Tryd.ntmps73
        go_wp2_with fail
        go_ret2
        exact ⟨rfl, Below.refl _ _⟩

set_option maxRecDepth 100000 in
set_option maxHeartbeats 8000000 in
theorem value_two (g off c : Nat) (kk uu : Nat) (XT YT : ByteArray) (w : World) (hX : XT.size ≤ 2000) (hY : YT.size ≤ 2000) (a0 : w.cell? ⟨g, off, none⟩ = some (.int .u8 kk)) (a1 : w.cell? ⟨g, off + 1, none⟩ = some (.string XT)) (b0 : w.cell? ⟨g, off + 4, none⟩ = some (.int .u8 uu)) (b1 : w.cell? ⟨g, off + 4 + 1, none⟩ = some (.string YT)) :
    Calls Tryd.prog 73 #[.slice (some ⟨g, off, none⟩) 2 c] w fun e w' => e = .returned (.tuple #[.string (XT ++ YT), .bool ((decide (kk = 111) && ((XT.toList == [45]) || (XT.toList == [43]))) && decide (uu = 110))]) ∧ Below w.heap.size w w' := by
  have hu : ∀ b : Bool, (uu = 110) = (b = true) → (((uu : Int) == 110) = b ∧ decide (uu = 110) = b) := by
    intro b hb
    cases b with
    | true => have : uu = 110 := by simpa using hb
              exact ⟨by simp; omega, by simpa using this⟩
    | false => have : ¬ uu = 110 := by simpa using hb
               exact ⟨by simp; omega, by simpa using this⟩
  obtain ⟨ub, hub⟩ : ∃ ub : Bool, (uu = 110) = (ub = true) := ⟨decide (uu = 110), by simp⟩
  obtain ⟨hu1, hu2⟩ := hu ub hub
  rw [hu2]
  clear hu hub hu2
  by_cases h1 : kk = 111
  · have hb : ((kk : Int) == 111) = true := by simp; omega
    rw [decide_eq_true h1]
    clear h1
    cases h2 : (XT.toList == [45]) with
    | true =>
      cases ub with
      | true =>
        go_enter Tryd.func73, Tryd.ntmps73
        go_wp2_with fail
        go_quiet (fail)
        have HB := Lib.hid (below_drewN (Below.refl w.heap.size w) nq)
        clear a0 a1 b0 b1
        generalize w.drewN nq = w1 at HB ⊢
        go_wp2_with fail
        go_ret2
        exact ⟨rfl, HB.out⟩
      | false =>
        go_enter Tryd.func73, Tryd.ntmps73
        go_wp2_with fail
        go_quiet (fail)
        have HB := Lib.hid (below_drewN (Below.refl w.heap.size w) nq)
        clear a0 a1 b0 b1
        generalize w.drewN nq = w1 at HB ⊢
        go_wp2_with fail
        go_ret2
        exact ⟨rfl, HB.out⟩
    | false =>
      cases h3 : (XT.toList == [43]) with
      | true =>
        cases ub with
        | true =>
          go_enter Tryd.func73, Tryd.ntmps73
          go_wp2_with fail
          go_quiet (fail)
          have HB := Lib.hid (below_drewN (Below.refl w.heap.size w) nq)
          clear a0 a1 b0 b1
          generalize w.drewN nq = w1 at HB ⊢
          go_wp2_with fail
          go_ret2
          exact ⟨rfl, HB.out⟩
        | false =>
          go_enter Tryd.func73, Tryd.ntmps73
          go_wp2_with fail
          go_quiet (fail)
          have HB := Lib.hid (below_drewN (Below.refl w.heap.size w) nq)
          clear a0 a1 b0 b1
          generalize w.drewN nq = w1 at HB ⊢
          go_wp2_with fail
          go_ret2
          exact ⟨rfl, HB.out⟩
      | false =>
        cases ub with
        | true =>
          go_enter Tryd.func73, Tryd.ntmps73
          go_wp2_with fail
          go_quiet (fail)
          have HB := Lib.hid (below_drewN (Below.refl w.heap.size w) nq)
          clear a0 a1 b0 b1
          generalize w.drewN nq = w1 at HB ⊢
          go_wp2_with fail
          go_ret2
          exact ⟨rfl, HB.out⟩
        | false =>
          go_enter Tryd.func73, Tryd.ntmps73
          go_wp2_with fail
          go_quiet (fail)
          have HB := Lib.hid (below_drewN (Below.refl w.heap.size w) nq)
          clear a0 a1 b0 b1
          generalize w.drewN nq = w1 at HB ⊢
          go_wp2_with fail
          go_ret2
          exact ⟨rfl, HB.out⟩
  · have hb : ((kk : Int) == 111) = false := by simp; omega
    rw [decide_eq_false h1]
    clear h1
    cases ub with
    | true =>
      go_enter Tryd.func73, Tryd.ntmps73
      go_wp2_with fail
      go_quiet (fail)
      have HB := Lib.hid (below_drewN (Below.refl w.heap.size w) nq)
      clear a0 a1 b0 b1
      generalize w.drewN nq = w1 at HB ⊢
      go_wp2_with fail
      go_ret2
      exact ⟨rfl, HB.out⟩
    | false =>
      go_enter Tryd.func73, Tryd.ntmps73
      go_wp2_with fail
      go_quiet (fail)
      have HB := Lib.hid (below_drewN (Below.refl w.heap.size w) nq)
      clear a0 a1 b0 b1
      generalize w.drewN nq = w1 at HB ⊢
      go_wp2_with fail
      go_ret2
      exact ⟨rfl, HB.out⟩

theorem value_any (p : Option Addr) (T : List Tok) (n c : Nat) (w : World) (hT : T.length = n) (hA : TokW w p T) (hx : ∀ q ∈ T, q.text.length ≤ 2000) :
    Calls Tryd.prog 73 #[.slice p n c] w (ValOut (valueB T) w) := by
  match T, hT, hA, hx with
  | [t], hT, hA, hx =>
    obtain rfl : 1 = n := hT
    obtain ⟨g, off, rfl, hg, hc⟩ := hA.first
    obtain ⟨_, a0, a1, _, _⟩ := hc.get (i := 0) rfl
    simp only [Nat.zero_mul, Nat.add_zero] at a0 a1
    have := value_one g off c _ _ w a0 a1
    have e : valueB [t] = (t.text, ((decide (t.kind.toNat = 115) || decide (t.kind.toNat = 119)) || decide (t.kind.toNat = 110))) := by show (t.text, (t.kind == 115 || t.kind == 119) || t.kind == 110) = _; rw [kind_eq, kind_eq, kind_eq]; rfl
    rw [e]; exact this
  | [t, u], hT, hA, hx =>
    obtain rfl : 2 = n := hT
    obtain ⟨g, off, rfl, hg, hc⟩ := hA.first
    obtain ⟨_, a0, a1, _, _⟩ := hc.get (i := 0) rfl
    obtain ⟨_, b0, b1, _, _⟩ := hc.get (i := 1) rfl
    simp only [Nat.zero_mul, Nat.one_mul, Nat.add_zero] at a0 a1 b0 b1
    have := value_two g off c _ _ _ _ w (by rw [str_size]; exact hx t (by simp)) (by rw [str_size]; exact hx u (by simp)) a0 a1 b0 b1
    rw [str_list, str_cat] at this
    have e : valueB [t, u] = (t.text ++ u.text, ((decide (t.kind.toNat = 111) && ((t.text == [45]) || (t.text == [43]))) && decide (u.kind.toNat = 110))) := by show (t.text ++ u.text, (t.kind == 111 && (t.text == [45] || t.text == [43])) && u.kind == 110) = _; rw [kind_eq, kind_eq]; rfl
    rw [e]; exact this
  | [], hT, hA, hx =>
    obtain rfl : 0 = n := hT
    clear hA hx
    go_enter Tryd.func73, Tryd.ntmps73
    go_wp2_with fail
    go_ret2
    exact ⟨rfl, Below.refl _ _⟩
  | t :: u :: v :: r, hT, hA, hx =>
    have hn : 3 ≤ n := by rw [← hT]; simp
    have h1 : ((n : Int) == 1) = false := by simp; omega
    have h2 : ((n : Int) == 2) = false := by simp; omega
    clear hA hx hT
    go_enter Tryd.func73, Tryd.ntmps73
    go_wp2_with fail
    go_ret2
    exact ⟨rfl, Below.refl _ _⟩
end Go.Proofs.YtgopajddloeclaaDoor

namespace Go.Proofs.YtgopajddloeclaaDoor
open Go.RowKit Go.Lib Go.WideShapes

theorem takes_le (L : List Tok) : (takes L).2 ≤ L.length := by
  match L with
  | [] => exact Nat.le_refl _
  | [t] => exact Nat.le_refl _
  | [t, u] => exact Nat.le_succ _
  | t :: u :: v :: r =>
    rw [takes_three]
    split
    · simp
    · simp
theorem takeB_le (L : List Tok) : (takeB L).2 ≤ L.length := by
  unfold takeB
  split
  · exact takes_le L
  · exact Nat.zero_le _

/-- What a setting asks for, from its kind and from what is behind the words that say it. -/
def setC2 (k : UInt8) (L : List Tok) : Cmd × Bool :=
  if (takeB L).2 = 0 ∨ (takeB L).2 = L.length ∨ (L[(takeB L).2]?.map assignsB).getD false = false then (noCmd, false)
  else if aloneW (L.drop ((takeB L).2 + 1)) w_default then (⟨114, (takeB L).1, []⟩, k == 115)
  else (⟨k, (takeB L).1, (valueB (L.drop ((takeB L).2 + 1))).1⟩, (valueB (L.drop ((takeB L).2 + 1))).2)
theorem setC_two (T : List Tok) : setC T = setC2 (setRow T).1 (setRow T).2 := rfl
theorem setC2_cases (k : UInt8) (L : List Tok) {X : Bs} {j : Nat} (hX : X = (takeB L).1) (hj : j = (takeB L).2) :
    ((j = 0 ∨ j = L.length ∨ (L[j]?.map assignsB).getD false = false) → setC2 k L = (noCmd, false)) ∧
    (j ≠ 0 → j ≠ L.length → (L[j]?.map assignsB).getD false = true → ∀ L3, L3 = L.drop (j + 1) → (aloneW L3 w_default = true → setC2 k L = (⟨114, X, []⟩, k == 115)) ∧ (aloneW L3 w_default = false → setC2 k L = (⟨k, X, (valueB L3).1⟩, (valueB L3).2))) := by
  subst hX hj
  refine ⟨fun h => if_pos h, fun h0 h1 h2 L3 hL => ?_⟩
  subst hL
  have hn : ¬ ((takeB L).2 = 0 ∨ (takeB L).2 = L.length ∨ (L[(takeB L).2]?.map assignsB).getD false = false) := by
    rintro (h | h | h)
    · exact h0 h
    · exact h1 h
    · rw [h2] at h; cases h
  refine ⟨fun h => ?_, fun h => ?_⟩
  · unfold setC2; rw [if_neg hn, if_pos h]
  · unfold setC2; rw [if_neg hn, if_neg (by rw [h]; decide)]
end Go.Proofs.YtgopajddloeclaaDoor

namespace Go.Proofs.YtgopajddloeclaaDoor
open Go.RowKit Go.Lib Go.WideShapes

set_option maxRecDepth 100000 in
set_option maxHeartbeats 16000000 in
theorem set_plain (p : Option Addr) (T : List Tok) (n c : Nat) (m : Int) (w : World) (hT : T.length = n) (hn : n ≤ 100000) (hc : n ≤ c) (hc9 : c ≤ 9223372036854775807) (hA : TokW w p T) (hx : ∀ q ∈ T, q.text.length ≤ 2000) (hm : w.cell? ⟨2, 0, none⟩ = some (.int .i64 m)) (h1 : beginsW T w_local = false) (h2 : beginsW T w_session = false) :
    Calls Tryd.prog 40 #[.slice p n c] w (CmdOut (setC T) w) := by
  have e : setC T = setC2 115 T := by rw [setC_two]; unfold setRow; rw [if_neg (by rw [h1]; decide), if_neg (by rw [h2]; simp)]
  rw [e]
  obtain ⟨q, hq⟩ : ∃ q, q = setC2 115 T := ⟨_, rfl⟩
  rw [← hq]
  have HQQ := Lib.hid hq
  clear e hq
  unfold CmdOut Cmd.val
  have HS := Lib.hid (Res.start w)
  have HM := Lib.hid hm
  have HW0 := Lib.hid (World.block_lt_of_cell? w ⟨2, 0, none⟩ hm)
  have HA := Lib.hid (hA.step HS.out.below)
  have HLL := Lib.hid hT; have HXX := Lib.hid hx
  have H1 := Lib.hid (show beginsW T (bytes { data := #[108, 111, 99, 97, 108] }) = false from h1)
  have H2 := Lib.hid (show beginsW T (bytes { data := #[115, 101, 115, 115, 105, 111, 110] }) = false from h2)
  clear hm hT hx hA h1 h2
  have hN : n ≤ 100000 := hn
  go_enter Tryd.func40, Tryd.ntmps40
  go_wp2_with fail
  refine (begins_below p T n c _ _ HLL.out hn HA.out).mono ?_; rintro e w0 ⟨rfl, hb0⟩
  rw [H1.out]
  have HR0 := Lib.hid (HS.out.step hb0)
  have HA0 := Lib.hid (HA.out.step hb0)
  clear hb0
  go_wp2_with fail
  refine (begins_below p T n c _ w0 HLL.out hn HA0.out).mono ?_; rintro e w1 ⟨rfl, hb1⟩
  rw [H2.out]
  have HR1 := Lib.hid (HR0.out.step hb1)
  have HAA := Lib.hid (HA0.out.step hb1)
  clear hb1 HA HA0 HR0 HS
  go_wp2_with fail
  refine (takew_any p T n c m w1 HLL.out (by omega) HAA.out HXX.out ((HR1.out.below.cell (p := ⟨2, 0, none⟩) HW0.out).trans HM.out)).mono ?_; rintro e w2 ⟨rfl, hb2⟩
  have HR2 := Lib.hid (HR1.out.step hb2)
  have HAA2 := Lib.hid (HAA.out.step hb2)
  clear hb2
  obtain ⟨X, hX⟩ : ∃ X, X = (takeB T).1 := ⟨_, rfl⟩
  obtain ⟨j, hj⟩ : ∃ j, j = (takeB T).2 := ⟨_, rfl⟩
  have hjl : j ≤ n := by rw [hj, ← HLL.out]; exact takeB_le T
  have HSQ := Lib.hid (setC2_cases 115 T hX hj)
  rw [← hX, ← hj]
  clear hX hj
  obtain ⟨XT, hXT⟩ : ∃ XT : ByteArray, XT = ⟨X.toArray⟩ := ⟨_, rfl⟩
  rw [← hXT]
  have HXT := Lib.hid hXT
  clear hXT
  by_cases h0 : j = 0
  · have HE := Lib.hid (HQQ.out.trans (HSQ.out.1 (.inl h0)))
    subst h0
    have c0 := HR2.out.c0
    have c1 := HR2.out.c1
    have c2 := HR2.out.c2
    have f0 := HR2.out.f0
    have f1 := HR2.out.f1
    have f2 := HR2.out.f2
    go_wp2_with fail
    obtain ⟨⟨k0, k1, k2⟩, hbb⟩ := HR2.out.put (.int .u8 0) (.string { data := #[] }) (.string { data := #[] })
    simp [bodyPost, results, Tryd.results40, go_sem, k0, k1, k2]
    rw [HE.out]
    exact ⟨by simp [noCmd], hbb⟩
  have h0' : (1 : Int) ≤ j := by omega
  have h0b : ((j : Int) == 0) = false := by simp; omega
  by_cases h1 : j = n
  · have HE := Lib.hid (HQQ.out.trans (HSQ.out.1 (.inr (.inl (h1.trans HLL.out.symm)))))
    subst h1
    have c0 := HR2.out.c0
    have c1 := HR2.out.c1
    have c2 := HR2.out.c2
    have f0 := HR2.out.f0
    have f1 := HR2.out.f1
    have f2 := HR2.out.f2
    go_wp2_with fail
    obtain ⟨⟨k0, k1, k2⟩, hbb⟩ := HR2.out.put (.int .u8 0) (.string { data := #[] }) (.string { data := #[] })
    simp [bodyPost, results, Tryd.results40, go_sem, k0, k1, k2]
    rw [HE.out]
    exact ⟨by simp [noCmd], hbb⟩
  have h1b : ((j : Int) == n) = false := by simp; omega
  have h1' : (j : Int) < n := by omega
  obtain ⟨t2, ht2⟩ : ∃ t2, T[j]? = some t2 := ⟨_, List.getElem?_eq_getElem (by rw [HLL.out]; omega)⟩
  obtain ⟨g2, off2, rfl, hg2⟩ : ∃ g off, p = some ⟨g, off, none⟩ ∧ g < w2.heap.size := by
    rcases HAA2.out with h | ⟨g, off, hp, hg, _⟩
    · rw [h] at ht2; cases ht2
    · exact ⟨g, off, hp, hg⟩
  obtain ⟨_, d0, d1, dlo, dhi, d2, d3⟩ := HAA2.out.get ht2
  have HTT := Lib.hid ht2
  clear ht2 h0 h1
  go_wp2_with fail
  refine (assigns_any t2 dlo dhi w2).mono ?_; rintro e w4 ⟨rfl, hb4⟩
  have HR4 := Lib.hid (HR2.out.step hb4)
  have HA4 := Lib.hid (HAA2.out.step hb4)
  clear hb4 d0 d1 d2 d3
  cases h2 : assignsB t2 with
  | false =>
    have HE := Lib.hid (HQQ.out.trans (HSQ.out.1 (.inr (.inr (by rw [HTT.out]; exact h2)))))
    clear h2
    have c0 := HR4.out.c0
    have c1 := HR4.out.c1
    have c2 := HR4.out.c2
    have f0 := HR4.out.f0
    have f1 := HR4.out.f1
    have f2 := HR4.out.f2
    go_wp2_with fail
    obtain ⟨⟨k0, k1, k2⟩, hbb⟩ := HR4.out.put (.int .u8 0) (.string { data := #[] }) (.string { data := #[] })
    simp [bodyPost, results, Tryd.results40, go_sem, k0, k1, k2]
    rw [HE.out]
    exact ⟨by simp [noCmd], hbb⟩
  | true =>
    obtain ⟨L3, hL3⟩ : ∃ L3, L3 = T.drop (j + 1) := ⟨_, rfl⟩
    have HQ := Lib.hid (show j + 1 ≤ n ∧ (aloneW L3 w_default = true → q = (⟨114, X, []⟩, 115 == 115)) ∧ (aloneW L3 w_default = false → q = (⟨115, X, (valueB L3).1⟩, (valueB L3).2)) from
      ⟨by omega, fun h => HQQ.out.trans (HSQ.out.2 (by omega) (by rw [HLL.out]; omega) (by rw [HTT.out]; exact h2) L3 hL3 |>.1 h), fun h => HQQ.out.trans (HSQ.out.2 (by omega) (by rw [HLL.out]; omega) (by rw [HTT.out]; exact h2) L3 hL3 |>.2 h)⟩)
    have HL3 := Lib.hid (show L3.length = n - (j + 1) by rw [hL3, List.length_drop, HLL.out])
    have HX3 := Lib.hid (show ∀ q ∈ L3, q.text.length ≤ 2000 from fun q hq => HXX.out q (List.mem_of_mem_drop (by rw [← hL3]; exact hq)))
    have HA3' := Lib.hid (show TokW w4 (some ⟨g2, off2 + (j + 1) * 4, none⟩) L3 by rw [hL3]; exact HA4.out.drop (j + 1))
    clear h2 hL3
    have hj1 : (j : Int) + 1 ≤ n := by omega
    have hc' : (n : Int) ≤ c := by omega
    by_cases hcc : c = j + 1
    · subst hcc
      obtain rfl : n = j + 1 := by omega
      have HLK := Lib.hid (show L3.length = 0 from HL3.out.trans (by omega))
      have HA3 := Lib.hid (show TokW w4 (some ⟨g2, off2, none⟩) L3 from .inl (List.length_eq_zero_iff.1 HLK.out))
      clear HL3 HA3'
      go_wp2_with fail
      refine (alone_any _ L3 0 _ { data := #[100, 101, 102, 97, 117, 108, 116] } w4 HLK.out (by omega) HA3.out).mono ?_; rintro e w5 ⟨rfl, hb5⟩
      have HR5 := Lib.hid (HR4.out.step hb5)
      have HA5 := Lib.hid (HA3.out.step hb5)
      clear hb5
      cases h5 : aloneW L3 (bytes { data := #[100, 101, 102, 97, 117, 108, 116] }) with
      | true =>
        have HE := Lib.hid (HQ.out.2.1 h5)
        clear h5
        have c0 := HR5.out.c0
        have c1 := HR5.out.c1
        have c2 := HR5.out.c2
        have f0 := HR5.out.f0
        have f1 := HR5.out.f1
        have f2 := HR5.out.f2
        go_wp2_with fail
        obtain ⟨⟨k0, k1, k2⟩, hbb⟩ := HR5.out.put (.int .u8 114) (.string XT) (.string { data := #[] })
        simp [bodyPost, results, Tryd.results40, go_sem, k0, k1, k2]
        rw [HE.out]
        exact ⟨by simp [HXT.out], hbb⟩
      | false =>
        have HE := Lib.hid (HQ.out.2.2 h5)
        clear h5
        go_wp2_with fail
        refine (value_any _ L3 0 _ w5 HLK.out HA5.out HX3.out).mono ?_; rintro e w6 ⟨rfl, hb6⟩
        have HR6 := Lib.hid (HR5.out.step hb6)
        clear hb6
        obtain ⟨VT, hVT⟩ : ∃ VT : ByteArray, VT = ⟨(valueB L3).1.toArray⟩ := ⟨_, rfl⟩
        rw [← hVT]
        have HVT := Lib.hid hVT
        clear hVT
        have c0 := HR6.out.c0
        have c1 := HR6.out.c1
        have c2 := HR6.out.c2
        have f0 := HR6.out.f0
        have f1 := HR6.out.f1
        have f2 := HR6.out.f2
        go_wp2_with fail
        obtain ⟨⟨k0, k1, k2⟩, hbb⟩ := HR6.out.put (.int .u8 115) (.string XT) (.string VT)
        simp [bodyPost, results, Tryd.results40, go_sem, k0, k1, k2]
        rw [HE.out]
        exact ⟨by simp [HXT.out, HVT.out], hbb⟩
    · have hcc' : (j : Int) + 1 < c := by omega
      have HA3 := HA3'
      have HLK := HL3
      go_wp2_with fail
      refine (alone_any _ L3 (n - (j + 1)) _ { data := #[100, 101, 102, 97, 117, 108, 116] } w4 HLK.out (by omega) HA3.out).mono ?_; rintro e w5 ⟨rfl, hb5⟩
      have HR5 := Lib.hid (HR4.out.step hb5)
      have HA5 := Lib.hid (HA3.out.step hb5)
      clear hb5
      cases h5 : aloneW L3 (bytes { data := #[100, 101, 102, 97, 117, 108, 116] }) with
      | true =>
        have HE := Lib.hid (HQ.out.2.1 h5)
        clear h5
        have c0 := HR5.out.c0
        have c1 := HR5.out.c1
        have c2 := HR5.out.c2
        have f0 := HR5.out.f0
        have f1 := HR5.out.f1
        have f2 := HR5.out.f2
        go_wp2_with fail
        obtain ⟨⟨k0, k1, k2⟩, hbb⟩ := HR5.out.put (.int .u8 114) (.string XT) (.string { data := #[] })
        simp [bodyPost, results, Tryd.results40, go_sem, k0, k1, k2]
        rw [HE.out]
        exact ⟨by simp [HXT.out], hbb⟩
      | false =>
        have HE := Lib.hid (HQ.out.2.2 h5)
        clear h5
        go_wp2_with fail
        refine (value_any _ L3 (n - (j + 1)) _ w5 HLK.out HA5.out HX3.out).mono ?_; rintro e w6 ⟨rfl, hb6⟩
        have HR6 := Lib.hid (HR5.out.step hb6)
        clear hb6
        obtain ⟨VT, hVT⟩ : ∃ VT : ByteArray, VT = ⟨(valueB L3).1.toArray⟩ := ⟨_, rfl⟩
        rw [← hVT]
        have HVT := Lib.hid hVT
        clear hVT
        have c0 := HR6.out.c0
        have c1 := HR6.out.c1
        have c2 := HR6.out.c2
        have f0 := HR6.out.f0
        have f1 := HR6.out.f1
        have f2 := HR6.out.f2
        go_wp2_with fail
        obtain ⟨⟨k0, k1, k2⟩, hbb⟩ := HR6.out.put (.int .u8 115) (.string XT) (.string VT)
        simp [bodyPost, results, Tryd.results40, go_sem, k0, k1, k2]
        rw [HE.out]
        exact ⟨by simp [HXT.out, HVT.out], hbb⟩
end Go.Proofs.YtgopajddloeclaaDoor

namespace Go.Proofs.YtgopajddloeclaaDoor
open Go.RowKit Go.Lib Go.WideShapes

set_option maxRecDepth 100000 in
set_option maxHeartbeats 16000000 in
theorem set_local (p : Option Addr) (T0 : List Tok) (n c : Nat) (m : Int) (w : World) (hT : T0.length = n) (hn : n ≤ 100000) (hc : n ≤ c) (hc9 : c ≤ 9223372036854775807) (hA : TokW w p T0) (hx : ∀ q ∈ T0, q.text.length ≤ 2000) (hm : w.cell? ⟨2, 0, none⟩ = some (.int .i64 m)) (h1 : beginsW T0 w_local = true) :
    Calls Tryd.prog 40 #[.slice p n c] w (CmdOut (setC T0) w) := by
  obtain ⟨t, r, rfl⟩ := begins_some h1
  have e : setC (t :: r) = setC2 108 r := by rw [setC_two]; unfold setRow; rw [if_pos h1]; rfl
  rw [e]
  obtain ⟨q, hq⟩ : ∃ q, q = setC2 108 r := ⟨_, rfl⟩
  rw [← hq]
  have HQQ := Lib.hid hq
  clear e hq
  unfold CmdOut Cmd.val
  have HS := Lib.hid (Res.start w)
  have HM := Lib.hid hm
  have HW0 := Lib.hid (World.block_lt_of_cell? w ⟨2, 0, none⟩ hm)
  have HA := Lib.hid (hA.step HS.out.below)
  have HL0 := Lib.hid hT
  have HX2 := Lib.hid (show ∀ q ∈ r, q.text.length ≤ 2000 from fun q hq => hx q (List.mem_cons_of_mem _ hq))
  have H1 := Lib.hid (show beginsW (t :: r) (bytes { data := #[108, 111, 99, 97, 108] }) = true from h1)
  obtain ⟨g, off, rfl, hg, hA'⟩ := HA.out.first
  have HBH := Lib.hid (behind_row hA' hT hc)
  have hn1 : (1 : Int) ≤ n := by rw [← hT, List.length_cons]; omega
  have hn2 : (n : Int) ≤ c := by omega
  clear hm hT hx hA h1 hA'
  by_cases hc1 : c = 1
  · subst hc1
    obtain rfl : n = 1 := by omega
    obtain rfl : r = [] := List.length_eq_zero_iff.1 HBH.out.2.1
    have HE := Lib.hid (show q = (noCmd, false) from HQQ.out)
    go_enter Tryd.func40, Tryd.ntmps40
    go_wp2_with fail
    refine (begins_below _ _ 1 1 _ _ HL0.out hn HA.out).mono ?_; rintro e w0 ⟨rfl, hb0⟩
    rw [H1.out]
    have HR0 := Lib.hid (HS.out.step hb0)
    clear hb0
    go_wp2_with fail
    go_quiet (fail)
    have HR1 := Lib.hid (HR0.out.step (below_drewN (Below.refl _ w0) nq))
    generalize w0.drewN nq = w1 at HR1 ⊢
    go_wp2_with fail
    refine (takew_any _ [] 0 _ m w1 rfl (by omega) (.inl rfl) (fun q hq => by cases hq) ((HR1.out.below.cell (p := ⟨2, 0, none⟩) HW0.out).trans HM.out)).mono ?_; rintro e w2 ⟨rfl, hb2⟩
    have HR2 := Lib.hid (HR1.out.step hb2)
    clear hb2
    rw [show takeB [] = ([], 0) from rfl]
    have c0 := HR2.out.c0
    have c1 := HR2.out.c1
    have c2 := HR2.out.c2
    have f0 := HR2.out.f0
    have f1 := HR2.out.f1
    have f2 := HR2.out.f2
    go_wp2_with fail
    obtain ⟨⟨k0, k1, k2⟩, hbb⟩ := HR2.out.put (.int .u8 0) (.string { data := #[] }) (.string { data := #[] })
    simp [bodyPost, results, Tryd.results40, go_sem, k0, k1, k2]
    rw [HE.out]
    exact ⟨by simp [noCmd], hbb⟩
  · have hc2 : (2 : Int) ≤ c := by omega
    go_enter Tryd.func40, Tryd.ntmps40
    go_wp2_with fail
    refine (begins_below _ _ n c _ _ HL0.out hn HA.out).mono ?_; rintro e w0 ⟨rfl, hb0⟩
    rw [H1.out]
    have HR0 := Lib.hid (HS.out.step hb0)
    have HAQ := Lib.hid (HBH.out.1.step hb0)
    clear hb0
    go_wp2_with fail
    go_quiet (fail)
    have hb1 : Below w0.heap.size w0 (w0.drewN nq) := below_drewN (Below.refl _ w0) nq
    generalize w0.drewN nq = w1 at hb1 ⊢
    have HR1 := Lib.hid (HR0.out.step hb1)
    have HA2 := Lib.hid (HAQ.out.step hb1)
    have HL2 := Lib.hid HBH.out.2.1
    have hNC := HBH.out.2.2
    have hN : n - 1 ≤ 100000 := by omega
    have hC9 : c - 1 ≤ 9223372036854775807 := by omega
    clear HBH hb1 HAQ HR0 HS HA
    go_wp2_with fail
    generalize (some ⟨g, off + 4, none⟩ : Option Addr) = P at HA2 ⊢
    generalize n - 1 = N at HL2 hNC hN ⊢
    generalize c - 1 = C at hNC hC9 ⊢
    clear hn1 hn2 hc hc9 hn hc2 hc1 HL0
    refine (takew_any P r N C m w1 HL2.out (by omega) HA2.out HX2.out ((HR1.out.below.cell (p := ⟨2, 0, none⟩) HW0.out).trans HM.out)).mono ?_; rintro e w2 ⟨rfl, hb2⟩
    have HR2 := Lib.hid (HR1.out.step hb2)
    have HA22 := Lib.hid (HA2.out.step hb2)
    clear hb2
    obtain ⟨X, hX⟩ : ∃ X, X = (takeB r).1 := ⟨_, rfl⟩
    obtain ⟨j, hj⟩ : ∃ j, j = (takeB r).2 := ⟨_, rfl⟩
    have hjl : j ≤ N := by rw [hj, ← HL2.out]; exact takeB_le r
    have HSQ := Lib.hid (setC2_cases 108 r hX hj)
    rw [← hX, ← hj]
    clear hX hj
    obtain ⟨XT, hXT⟩ : ∃ XT : ByteArray, XT = ⟨X.toArray⟩ := ⟨_, rfl⟩
    rw [← hXT]
    have HXT := Lib.hid hXT
    clear hXT
    by_cases h0 : j = 0
    · have HE := Lib.hid (HQQ.out.trans (HSQ.out.1 (.inl h0)))
      subst h0
      have c0 := HR2.out.c0
      have c1 := HR2.out.c1
      have c2 := HR2.out.c2
      have f0 := HR2.out.f0
      have f1 := HR2.out.f1
      have f2 := HR2.out.f2
      go_wp2_with fail
      obtain ⟨⟨k0, k1, k2⟩, hbb⟩ := HR2.out.put (.int .u8 0) (.string { data := #[] }) (.string { data := #[] })
      simp [bodyPost, results, Tryd.results40, go_sem, k0, k1, k2]
      rw [HE.out]
      exact ⟨by simp [noCmd], hbb⟩
    have h0' : (1 : Int) ≤ j := by omega
    have h0b : ((j : Int) == 0) = false := by simp; omega
    by_cases h1 : j = N
    · have HE := Lib.hid (HQQ.out.trans (HSQ.out.1 (.inr (.inl (h1.trans HL2.out.symm)))))
      subst h1
      have c0 := HR2.out.c0
      have c1 := HR2.out.c1
      have c2 := HR2.out.c2
      have f0 := HR2.out.f0
      have f1 := HR2.out.f1
      have f2 := HR2.out.f2
      go_wp2_with fail
      obtain ⟨⟨k0, k1, k2⟩, hbb⟩ := HR2.out.put (.int .u8 0) (.string { data := #[] }) (.string { data := #[] })
      simp [bodyPost, results, Tryd.results40, go_sem, k0, k1, k2]
      rw [HE.out]
      exact ⟨by simp [noCmd], hbb⟩
    have h1b : ((j : Int) == N) = false := by simp; omega
    have h1' : (j : Int) < N := by omega
    obtain ⟨t2, ht2⟩ : ∃ t2, r[j]? = some t2 := ⟨_, List.getElem?_eq_getElem (by rw [HL2.out]; omega)⟩
    obtain ⟨g2, off2, rfl, hg2⟩ : ∃ g off, P = some ⟨g, off, none⟩ ∧ g < w2.heap.size := by
      rcases HA22.out with h | ⟨g, off, hp, hg, _⟩
      · rw [h] at ht2; cases ht2
      · exact ⟨g, off, hp, hg⟩
    obtain ⟨_, d0, d1, dlo, dhi, d2, d3⟩ := HA22.out.get ht2
    have HT2 := Lib.hid ht2
    clear ht2 h0 h1
    go_wp2_with fail
    refine (assigns_any t2 dlo dhi w2).mono ?_; rintro e w4 ⟨rfl, hb4⟩
    have HR4 := Lib.hid (HR2.out.step hb4)
    have HA4 := Lib.hid (HA22.out.step hb4)
    clear hb4 d0 d1 d2 d3
    cases h2 : assignsB t2 with
    | false =>
      have HE := Lib.hid (HQQ.out.trans (HSQ.out.1 (.inr (.inr (by rw [HT2.out]; exact h2)))))
      clear h2
      have c0 := HR4.out.c0
      have c1 := HR4.out.c1
      have c2 := HR4.out.c2
      have f0 := HR4.out.f0
      have f1 := HR4.out.f1
      have f2 := HR4.out.f2
      go_wp2_with fail
      obtain ⟨⟨k0, k1, k2⟩, hbb⟩ := HR4.out.put (.int .u8 0) (.string { data := #[] }) (.string { data := #[] })
      simp [bodyPost, results, Tryd.results40, go_sem, k0, k1, k2]
      rw [HE.out]
      exact ⟨by simp [noCmd], hbb⟩
    | true =>
      obtain ⟨L3, hL3⟩ : ∃ L3, L3 = r.drop (j + 1) := ⟨_, rfl⟩
      have HQ := Lib.hid (show j + 1 ≤ N ∧ (aloneW L3 w_default = true → q = (⟨114, X, []⟩, 108 == 115)) ∧ (aloneW L3 w_default = false → q = (⟨108, X, (valueB L3).1⟩, (valueB L3).2)) from
        ⟨by omega, fun h => HQQ.out.trans (HSQ.out.2 (by omega) (by rw [HL2.out]; omega) (by rw [HT2.out]; exact h2) L3 hL3 |>.1 h), fun h => HQQ.out.trans (HSQ.out.2 (by omega) (by rw [HL2.out]; omega) (by rw [HT2.out]; exact h2) L3 hL3 |>.2 h)⟩)
      have HL3 := Lib.hid (show L3.length = N - (j + 1) by rw [hL3, List.length_drop, HL2.out])
      have HX3 := Lib.hid (show ∀ q ∈ L3, q.text.length ≤ 2000 from fun q hq => HX2.out q (List.mem_of_mem_drop (by rw [← hL3]; exact hq)))
      have HA3' := Lib.hid (show TokW w4 (some ⟨g2, off2 + (j + 1) * 4, none⟩) L3 by rw [hL3]; exact HA4.out.drop (j + 1))
      clear h2 hL3
      have hj1 : (j : Int) + 1 ≤ N := by omega
      have hNC' : (N : Int) ≤ C := by omega
      by_cases hcc : C = j + 1
      · subst hcc
        obtain rfl : N = j + 1 := by omega
        have HLK := Lib.hid (show L3.length = 0 from HL3.out.trans (by omega))
        have HA3 := Lib.hid (show TokW w4 (some ⟨g2, off2, none⟩) L3 from .inl (List.length_eq_zero_iff.1 HLK.out))
        clear HL3 HA3'
        go_wp2_with fail
        refine (alone_any _ L3 0 _ { data := #[100, 101, 102, 97, 117, 108, 116] } w4 HLK.out (by omega) HA3.out).mono ?_; rintro e w5 ⟨rfl, hb5⟩
        have HR5 := Lib.hid (HR4.out.step hb5)
        have HA5 := Lib.hid (HA3.out.step hb5)
        clear hb5
        cases h5 : aloneW L3 (bytes { data := #[100, 101, 102, 97, 117, 108, 116] }) with
        | true =>
          have HE := Lib.hid (HQ.out.2.1 h5)
          clear h5
          have c0 := HR5.out.c0
          have c1 := HR5.out.c1
          have c2 := HR5.out.c2
          have f0 := HR5.out.f0
          have f1 := HR5.out.f1
          have f2 := HR5.out.f2
          go_wp2_with fail
          obtain ⟨⟨k0, k1, k2⟩, hbb⟩ := HR5.out.put (.int .u8 114) (.string XT) (.string { data := #[] })
          simp [bodyPost, results, Tryd.results40, go_sem, k0, k1, k2]
          rw [HE.out]
          exact ⟨by simp [HXT.out], hbb⟩
        | false =>
          have HE := Lib.hid (HQ.out.2.2 h5)
          clear h5
          go_wp2_with fail
          refine (value_any _ L3 0 _ w5 HLK.out HA5.out HX3.out).mono ?_; rintro e w6 ⟨rfl, hb6⟩
          have HR6 := Lib.hid (HR5.out.step hb6)
          clear hb6
          obtain ⟨VT, hVT⟩ : ∃ VT : ByteArray, VT = ⟨(valueB L3).1.toArray⟩ := ⟨_, rfl⟩
          rw [← hVT]
          have HVT := Lib.hid hVT
          clear hVT
          have c0 := HR6.out.c0
          have c1 := HR6.out.c1
          have c2 := HR6.out.c2
          have f0 := HR6.out.f0
          have f1 := HR6.out.f1
          have f2 := HR6.out.f2
          go_wp2_with fail
          obtain ⟨⟨k0, k1, k2⟩, hbb⟩ := HR6.out.put (.int .u8 108) (.string XT) (.string VT)
          simp [bodyPost, results, Tryd.results40, go_sem, k0, k1, k2]
          rw [HE.out]
          exact ⟨by simp [HXT.out, HVT.out], hbb⟩
      · have hcc' : (j : Int) + 1 < C := by omega
        have HA3 := HA3'
        have HLK := HL3
        go_wp2_with fail
        refine (alone_any _ L3 (N - (j + 1)) _ { data := #[100, 101, 102, 97, 117, 108, 116] } w4 HLK.out (by omega) HA3.out).mono ?_; rintro e w5 ⟨rfl, hb5⟩
        have HR5 := Lib.hid (HR4.out.step hb5)
        have HA5 := Lib.hid (HA3.out.step hb5)
        clear hb5
        cases h5 : aloneW L3 (bytes { data := #[100, 101, 102, 97, 117, 108, 116] }) with
        | true =>
          have HE := Lib.hid (HQ.out.2.1 h5)
          clear h5
          have c0 := HR5.out.c0
          have c1 := HR5.out.c1
          have c2 := HR5.out.c2
          have f0 := HR5.out.f0
          have f1 := HR5.out.f1
          have f2 := HR5.out.f2
          go_wp2_with fail
          obtain ⟨⟨k0, k1, k2⟩, hbb⟩ := HR5.out.put (.int .u8 114) (.string XT) (.string { data := #[] })
          simp [bodyPost, results, Tryd.results40, go_sem, k0, k1, k2]
          rw [HE.out]
          exact ⟨by simp [HXT.out], hbb⟩
        | false =>
          have HE := Lib.hid (HQ.out.2.2 h5)
          clear h5
          go_wp2_with fail
          refine (value_any _ L3 (N - (j + 1)) _ w5 HLK.out HA5.out HX3.out).mono ?_; rintro e w6 ⟨rfl, hb6⟩
          have HR6 := Lib.hid (HR5.out.step hb6)
          clear hb6
          obtain ⟨VT, hVT⟩ : ∃ VT : ByteArray, VT = ⟨(valueB L3).1.toArray⟩ := ⟨_, rfl⟩
          rw [← hVT]
          have HVT := Lib.hid hVT
          clear hVT
          have c0 := HR6.out.c0
          have c1 := HR6.out.c1
          have c2 := HR6.out.c2
          have f0 := HR6.out.f0
          have f1 := HR6.out.f1
          have f2 := HR6.out.f2
          go_wp2_with fail
          obtain ⟨⟨k0, k1, k2⟩, hbb⟩ := HR6.out.put (.int .u8 108) (.string XT) (.string VT)
          simp [bodyPost, results, Tryd.results40, go_sem, k0, k1, k2]
          rw [HE.out]
          exact ⟨by simp [HXT.out, HVT.out], hbb⟩
end Go.Proofs.YtgopajddloeclaaDoor
