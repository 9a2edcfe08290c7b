/- Contracts and mathematics: DField, DIs, DRead0, DReadnone. -/
import Derived.Test.YtpijolcklmdjbaaGreatDoorZ36
import Derived.Test.YtpijolcklmdjbaaGreatDoorZ7
import Derived.Defers
import Derived.Recover
namespace Go.Proofs.YtpijolcklmdjbaaGreatDoor
open Go.RowKit Go.Lib Go.WideShapes

set_option maxRecDepth 100000 in
set_option maxHeartbeats 4000000 in
theorem dfield_115 (w0 w : World) (s : RS) (hr : droom s ≤ 850000) (h : IsD w0 w s) :
    Calls Tryz.prog 47 #[.pointer (some ⟨w0.heap.size, 0, none⟩), .int .u8 115] w (DOut w0 (rText s)) := by
  have HN := Lib.hid (text_r w0 w s (by omega) h)
  obtain ⟨R, hR⟩ : ∃ R, R = rText s := ⟨_, rfl⟩
  rw [← hR] at HN ⊢
  clear hR h hr
  go_enter Tryz.func47, Tryz.ntmps47
  go_wp2_with fail
  refine HN.out.mono ?_; rintro e w1 (⟨s1, hs, rfl, hW⟩ | ⟨hs, rfl, hB⟩)
  · have HS := Lib.hid hs; have HW := Lib.hid hW
    clear hs hW
    go_wp2_with fail
    go_end0
    exact .inl ⟨s1, HS.out, rfl, HW.out⟩
  · have HS := Lib.hid hs
    clear hs
    go_wp2_with fail
    exact ⟨rfl, .inr ⟨HS.out, rfl, hB⟩⟩

set_option maxRecDepth 100000 in
set_option maxHeartbeats 4000000 in
theorem dfield_105 (w0 w : World) (s : RS) (hr : droom s ≤ 850000) (h : IsD w0 w s) :
    Calls Tryz.prog 47 #[.pointer (some ⟨w0.heap.size, 0, none⟩), .int .u8 105] w (DOut w0 (rLong s)) := by
  have HN := Lib.hid (long_r w0 w s (by omega) h)
  obtain ⟨R, hR⟩ : ∃ R, R = rLong s := ⟨_, rfl⟩
  rw [← hR] at HN ⊢
  clear hR h hr
  go_enter Tryz.func47, Tryz.ntmps47
  go_wp2_with fail
  refine HN.out.mono ?_; rintro e w1 (⟨s1, hs, rfl, hW⟩ | ⟨hs, rfl, hB⟩)
  · have HS := Lib.hid hs; have HW := Lib.hid hW
    clear hs hW
    go_wp2_with fail
    go_end0
    exact .inl ⟨s1, HS.out, rfl, HW.out⟩
  · have HS := Lib.hid hs
    clear hs
    go_wp2_with fail
    exact ⟨rfl, .inr ⟨HS.out, rfl, hB⟩⟩

set_option maxRecDepth 100000 in
set_option maxHeartbeats 4000000 in
theorem dfield_112 (w0 w : World) (s : RS) (hr : droom s ≤ 850000) (h : IsD w0 w s) :
    Calls Tryz.prog 47 #[.pointer (some ⟨w0.heap.size, 0, none⟩), .int .u8 112] w (DOut w0 (rPairs s)) := by
  have HN := Lib.hid (pairs_r w0 w s hr h)
  obtain ⟨R, hR⟩ : ∃ R, R = rPairs s := ⟨_, rfl⟩
  rw [← hR] at HN ⊢
  clear hR h hr
  go_enter Tryz.func47, Tryz.ntmps47
  go_wp2_with fail
  refine HN.out.mono ?_; rintro e w1 (⟨s1, hs, rfl, hW⟩ | ⟨hs, rfl, hB⟩)
  · have HS := Lib.hid hs; have HW := Lib.hid hW
    clear hs hW
    go_wp2_with fail
    go_end0
    exact .inl ⟨s1, HS.out, rfl, HW.out⟩
  · have HS := Lib.hid hs
    clear hs
    go_wp2_with fail
    exact ⟨rfl, .inr ⟨HS.out, rfl, hB⟩⟩

set_option maxRecDepth 100000 in
set_option maxHeartbeats 4000000 in
theorem dfield_102 (w0 w : World) (s : RS) (hr : droom s ≤ 850000) (h : IsD w0 w s) :
    Calls Tryz.prog 47 #[.pointer (some ⟨w0.heap.size, 0, none⟩), .int .u8 102] w (DOut w0 (rFields s)) := by
  have HN := Lib.hid (fields_r w0 w s hr h)
  obtain ⟨R, hR⟩ : ∃ R, R = rFields s := ⟨_, rfl⟩
  rw [← hR] at HN ⊢
  clear hR h hr
  go_enter Tryz.func47, Tryz.ntmps47
  go_wp2_with fail
  refine HN.out.mono ?_; rintro e w1 (⟨s1, hs, rfl, hW⟩ | ⟨hs, rfl, hB⟩)
  · have HS := Lib.hid hs; have HW := Lib.hid hW
    clear hs hW
    go_wp2_with fail
    go_end0
    exact .inl ⟨s1, HS.out, rfl, HW.out⟩
  · have HS := Lib.hid hs
    clear hs
    go_wp2_with fail
    exact ⟨rfl, .inr ⟨HS.out, rfl, hB⟩⟩

set_option maxRecDepth 100000 in
set_option maxHeartbeats 4000000 in
theorem dfield_99 (w0 w : World) (s : RS) (hr : droom s ≤ 850000) (h : IsD w0 w s) :
    Calls Tryz.prog 47 #[.pointer (some ⟨w0.heap.size, 0, none⟩), .int .u8 99] w (DOut w0 (rCounted rShort s)) := by
  have HN := Lib.hid (counted_short_r w0 w s rShort (fun W s hs h => short_r w0 W s hs h) nar_short hr h)
  obtain ⟨R, hR⟩ : ∃ R, R = rCounted rShort s := ⟨_, rfl⟩
  rw [← hR] at HN ⊢
  clear hR h hr
  go_enter Tryz.func47, Tryz.ntmps47
  go_wp2_with fail
  refine HN.out.mono ?_; rintro e w1 (⟨s1, hs, rfl, hW⟩ | ⟨hs, rfl, hB⟩)
  · have HS := Lib.hid hs; have HW := Lib.hid hW
    clear hs hW
    go_wp2_with fail
    go_end0
    exact .inl ⟨s1, HS.out, rfl, HW.out⟩
  · have HS := Lib.hid hs
    clear hs
    go_wp2_with fail
    exact ⟨rfl, .inr ⟨HS.out, rfl, hB⟩⟩

set_option maxRecDepth 100000 in
set_option maxHeartbeats 4000000 in
theorem dfield_108 (w0 w : World) (s : RS) (hr : droom s ≤ 850000) (h : IsD w0 w s) :
    Calls Tryz.prog 47 #[.pointer (some ⟨w0.heap.size, 0, none⟩), .int .u8 108] w (DOut w0 (rCounted rLong s)) := by
  have HN := Lib.hid (counted_long_r w0 w s rLong (fun W s hs h => long_r w0 W s hs h) nar_long hr h)
  obtain ⟨R, hR⟩ : ∃ R, R = rCounted rLong s := ⟨_, rfl⟩
  rw [← hR] at HN ⊢
  clear hR h hr
  go_enter Tryz.func47, Tryz.ntmps47
  go_wp2_with fail
  refine HN.out.mono ?_; rintro e w1 (⟨s1, hs, rfl, hW⟩ | ⟨hs, rfl, hB⟩)
  · have HS := Lib.hid hs; have HW := Lib.hid hW
    clear hs hW
    go_wp2_with fail
    go_end0
    exact .inl ⟨s1, HS.out, rfl, HW.out⟩
  · have HS := Lib.hid hs
    clear hs
    go_wp2_with fail
    exact ⟨rfl, .inr ⟨HS.out, rfl, hB⟩⟩

set_option maxRecDepth 100000 in
set_option maxHeartbeats 4000000 in
theorem dfield_118 (w0 w : World) (s : RS) (hr : droom s ≤ 850000) (h : IsD w0 w s) :
    Calls Tryz.prog 47 #[.pointer (some ⟨w0.heap.size, 0, none⟩), .int .u8 118] w (DOut w0 (rCounted rValue s)) := by
  have HN := Lib.hid (counted_value_r w0 w s rValue (fun W s hs h => value_r w0 W s hs h) nar_value hr h)
  obtain ⟨R, hR⟩ : ∃ R, R = rCounted rValue s := ⟨_, rfl⟩
  rw [← hR] at HN ⊢
  clear hR h hr
  go_enter Tryz.func47, Tryz.ntmps47
  go_wp2_with fail
  refine HN.out.mono ?_; rintro e w1 (⟨s1, hs, rfl, hW⟩ | ⟨hs, rfl, hB⟩)
  · have HS := Lib.hid hs; have HW := Lib.hid hW
    clear hs hW
    go_wp2_with fail
    go_end0
    exact .inl ⟨s1, HS.out, rfl, HW.out⟩
  · have HS := Lib.hid hs
    clear hs
    go_wp2_with fail
    exact ⟨rfl, .inr ⟨HS.out, rfl, hB⟩⟩

set_option maxRecDepth 100000 in
set_option maxHeartbeats 4000000 in
theorem dfield_109 (w0 w : World) (s : RS) (hr : droom s ≤ 850000) (h : IsD w0 w s) :
    Calls Tryz.prog 47 #[.pointer (some ⟨w0.heap.size, 0, none⟩), .int .u8 109] w (DOut w0 (rCounted rName s)) := by
  have HN := Lib.hid (counted_name_r w0 w s rName (fun W s hs h => name_r w0 W s hs h) nar_name hr h)
  obtain ⟨R, hR⟩ : ∃ R, R = rCounted rName s := ⟨_, rfl⟩
  rw [← hR] at HN ⊢
  clear hR h hr
  go_enter Tryz.func47, Tryz.ntmps47
  go_wp2_with fail
  refine HN.out.mono ?_; rintro e w1 (⟨s1, hs, rfl, hW⟩ | ⟨hs, rfl, hB⟩)
  · have HS := Lib.hid hs; have HW := Lib.hid hW
    clear hs hW
    go_wp2_with fail
    go_end0
    exact .inl ⟨s1, HS.out, rfl, HW.out⟩
  · have HS := Lib.hid hs
    clear hs
    go_wp2_with fail
    exact ⟨rfl, .inr ⟨HS.out, rfl, hB⟩⟩

set_option maxRecDepth 100000 in
set_option maxHeartbeats 4000000 in
theorem dfield_98 (w0 w : World) (s : RS) (hr : droom s ≤ 850000) (h : IsD w0 w s) :
    Calls Tryz.prog 47 #[.pointer (some ⟨w0.heap.size, 0, none⟩), .int .u8 98] w (DOut w0 (rByte s)) := by
  have HU := Lib.hid (unsigned_any w0 w s 1 (by decide) (by unfold droom at hr; omega) h)
  have HUO := Lib.hid (show ∀ n s', rUnsigned 1 s = some (n, s') → s'.N.length ≤ 1000000 from by
    intro n s' e
    unfold rUnsigned at e
    cases hy : rTake 1 s with
    | none => rw [hy] at e; cases e
    | some p =>
      obtain ⟨b, s1⟩ := p
      rw [hy] at e
      simp only [Option.map_some, Option.some.injEq, Prod.mk.injEq] at e
      obtain ⟨_, rfl⟩ := e
      rw [(take_out hy).2.2.2]
      unfold droom at hr; omega)
  unfold rByte
  generalize rUnsigned 1 s = U at HU HUO ⊢
  clear h hr
  go_enter Tryz.func47, Tryz.ntmps47
  go_wp2_with fail
  refine HU.out.mono ?_; rintro e w2 (⟨n, s1, rfl, rfl, hI⟩ | ⟨rfl, rfl, hB⟩)
  · have hN1 := HUO.out n s1 rfl
    have HI2 := Lib.hid hI
    clear hI
    go_wp2_with fail
    refine (keep_any w0 w2 s1 n hN1 HI2.out).mono ?_; rintro e w3 (⟨s2, h2, rfl, hI⟩ | ⟨h2, _, _⟩)
    case inr => cases h2
    obtain rfl := Option.some.inj h2
    have HI3 := Lib.hid hI
    clear hI h2
    go_wp2_with fail
    go_end0
    exact .inl ⟨_, rfl, rfl, HI3.out⟩
  · go_wp2_with fail
    exact ⟨rfl, .inr ⟨rfl, rfl, hB⟩⟩

theorem dfield_any (w0 w : World) (s : RS) (c : UInt8) (hc : letter c = true) (hr : droom s ≤ 850000) (h : IsD w0 w s) :
    Calls Tryz.prog 47 #[.pointer (some ⟨w0.heap.size, 0, none⟩), .int .u8 (c.toNat : Nat)] w (DOut w0 (rField c s)) := by
  have hm : c = 115 ∨ c = 98 ∨ c = 105 ∨ c = 112 ∨ c = 102 ∨ c = 99 ∨ c = 108 ∨ c = 118 ∨ c = 109 := by
    simpa [letter] using hc
  rcases hm with rfl | rfl | rfl | rfl | rfl | rfl | rfl | rfl | rfl
  · exact dfield_115 w0 w s hr h
  · exact dfield_98 w0 w s hr h
  · exact dfield_105 w0 w s hr h
  · exact dfield_112 w0 w s hr h
  · exact dfield_102 w0 w s hr h
  · exact dfield_99 w0 w s hr h
  · exact dfield_108 w0 w s hr h
  · exact dfield_118 w0 w s hr h
  · exact dfield_109 w0 w s hr h
end Go.Proofs.YtpijolcklmdjbaaGreatDoor

namespace Go.Proofs.YtpijolcklmdjbaaGreatDoor
open Go.RowKit Go.Lib Go.WideShapes

theorem isd_new (w0 : World) (S : Bs) : IsD w0 (w0.alloc (.cells #[.string ⟨S.toArray⟩, .slice none 0 0, .slice none 0 0] 93)) ⟨S, [], []⟩ := by
  refine ⟨.slice none 0 0, .slice none 0 0, (Below.refl _ _).alloc (Nat.le_refl _) _, by rw [World.size_alloc]; exact Nat.lt_succ_self _, ?_, ?_, ?_, ?_, ?_, ?_, ⟨rfl, .inl ⟨rfl, rfl⟩⟩, ⟨rfl, .inl ⟨rfl, rfl⟩⟩⟩ <;> simp [go_sem]
theorem own_textsIn {w : World} {base : Nat} {v : Value} {T : List Bs} (h : w.ownsRow base 9 1 v T.length (tcells T)) : TextsIn w v T := by
  rcases h.2 with ⟨rfl, h0⟩ | ⟨g, cap, cur, rfl, hb, hg, hn, hm, hc, ht⟩
  · exact ⟨none, 0, 0, rfl, h0, Nat.le_refl _, by omega, .inl (List.length_eq_zero_iff.1 h0)⟩
  · refine ⟨_, T.length, cap, rfl, rfl, hn, by unfold maxLen at hm; omega, .inr ⟨g, 0, rfl, (Array.getElem?_eq_some_iff.1 hg).1, fun i t hi => ?_⟩⟩
    rw [Nat.zero_add, cell_of_row w g i cur 9 (0, 0) hg]
    have hl : i < T.length := (List.getElem?_eq_some_iff.1 hi).1
    have hu : (tcells T)[i]? = some (.string ⟨t.toArray⟩) := by simp [tcells, hi]
    rw [← ht, List.getElem?_take] at hu
    split at hu
    · simpa using hu
    · cases hu
set_option maxRecDepth 100000 in
set_option maxHeartbeats 4000000 in
theorem iscancel_any (w : World) (S : Bs) (hl : S.length ≤ 800000) :
    Calls Tryz.prog 46 #[.string ⟨S.toArray⟩] w fun e w' => e = .returned (.bool (isCancel S)) ∧ Below w.heap.size w w' := by
  obtain ⟨sb, hsb⟩ : ∃ sb : ByteArray, sb = ⟨S.toArray⟩ := ⟨_, rfl⟩
  have hsz : sb.size = S.length := by rw [hsb, bsize]
  have HD := Lib.hid (isd_new w S)
  rw [← hsb] at HD ⊢
  have HSZ := Lib.hid hsz
  have hsz2 : sb.size ≤ 800000 := by omega
  clear hsb
  by_cases h4 : 4 ≤ S.length
  · have h4' : (4 : Int) ≤ sb.size := by omega
    have hx : rSigned 4 ⟨S, [], []⟩ = some (sgnM 4 (unsig (S.take 4)), ⟨S.drop 4, [], []⟩) := by
      unfold rSigned rTake
      rw [if_pos h4]; rfl
    have HS := Lib.hid (signed_four w _ ⟨S, [], []⟩ (by show S.length ≤ _; omega) HD.out)
    rw [hx] at HS
    have HR := Lib.hid (show isCancel S = (sgnM 4 (unsig (S.take 4)) == 80877102) by
      unfold isCancel
      by_cases h : sgnM 4 (unsig (S.take 4)) = 80877102 <;> simp [h, h4])
    rw [HR.out]
    generalize sgnM 4 (unsig (S.take 4)) = n at HS
    clear h4 hx hsz hl
    go_enter Tryz.func46, Tryz.ntmps46
    go_wp2_with fail
    refine HS.out.mono ?_; rintro e w1 (⟨n', s1', h, rfl, hI⟩ | ⟨h, _, _⟩)
    case inr => cases h
    obtain ⟨rfl, rfl⟩ := Prod.mk.inj (Option.some.inj h)
    obtain ⟨_, _, hD⟩ := hI
    have HB := Lib.hid hD.below
    clear hD h
    go_wp2_with fail
    go_ret
    exact ⟨rfl, HB.out⟩
  · have h4' : ¬ (4 : Int) ≤ sb.size := by omega
    have h5 : decide ((4 : Int) ≤ sb.size) = false := decide_eq_false h4'
    have HR := Lib.hid (show isCancel S = false from decide_eq_false fun h => h4 h.1)
    rw [HR.out]
    clear h4 hsz hl
    go_enter Tryz.func46, Tryz.ntmps46
    go_wp2_with fail
    go_ret
    exact ⟨rfl, (Below.refl _ _).alloc (Nat.le_refl _) _⟩

theorem catch_read (b c : Nat) (x0 x1 x2 y : Value) (u : TypeId) (pv : Value) (older : List PanicEntry) (w : World) (hbc : b ≠ c)
    (c0 : w.cell? ⟨b, 0, none⟩ = some x0) (c1 : w.cell? ⟨b, 1, none⟩ = some x1) (c2 : w.cell? ⟨b, 2, none⟩ = some x2) (c3 : w.cell? ⟨c, 0, none⟩ = some y)
    (f0 : w.frozen? ⟨b, 0, none⟩ = false) (f1 : w.frozen? ⟨b, 1, none⟩ = false) (f2 : w.frozen? ⟨b, 2, none⟩ = false) (f3 : w.frozen? ⟨c, 0, none⟩ = false) :
    CallsD Tryz.prog 43 #[.pointer (some ⟨b, 0, none⟩), .pointer (some ⟨c, 0, none⟩)] (.panicking ({ v := .iface u pv, recovered := false } :: older)) w fun e u' w' =>
      e = .returned (.tuple #[]) ∧ u' = .panicking ({ v := .iface u pv, recovered := true } :: older) ∧
        w' = (((w.setCell ⟨b, 0, none⟩ (.int .u8 0)).setCell ⟨b, 1, none⟩ (.slice none 0 0)).setCell ⟨b, 2, none⟩ (.slice none 0 0)).setCell ⟨c, 0, none⟩ (.int .i64 2) := by
  refine callsD_of_wpS Tryz.func43 rfl fun c₀ cs hu => ?_
  apply wpS_seq
  apply wpS_region
  simp [wpOpsS, go_sem, recoverD, hu, Tryz.ntmps43, Exit.thenS]
  refine wpS_cond (t := true) (by simp [Act.eval, Array.replicate]) ?_
  simp only [if_true]
  apply wpS_region
  simp [wpOpsS, go_sem, c0, c1, c2, c3, f0, f1, f2, f3, bodyPostS, results, Tryz.results43]

theorem catch_idle_read (b c : Nat) (w : World) :
    CallsD Tryz.prog 43 #[.pointer (some ⟨b, 0, none⟩), .pointer (some ⟨c, 0, none⟩)] .returning w fun e u' w' => e = .returned (.tuple #[]) ∧ u' = .returning ∧ w' = w := by
  refine callsD_of_wpS Tryz.func43 rfl fun c₀ cs hu => ?_
  apply wpS_seq
  apply wpS_region
  simp [wpOpsS, go_sem, recoverD, hu, Tryz.ntmps43, Exit.thenS]
  refine wpS_cond (t := false) (by simp [Act.eval, Array.replicate]) ?_
  simp only [Bool.false_eq_true, if_false]
  refine wpS_of_wp (wp_skip ?_)
  cases c₀
  simp_all [bodyPostS, results, Tryz.results43]
end Go.Proofs.YtpijolcklmdjbaaGreatDoor

namespace Go.Proofs.YtpijolcklmdjbaaGreatDoor
open Go.RowKit Go.Lib Go.WideShapes

theorem rAll_append (a b : Bs) : ∀ s, rAll (a ++ b) s = (rAll a s).bind (rAll b) := by
  induction a with
  | nil => intro s; rfl
  | cons c a ih =>
    intro s
    rw [List.cons_append, rAll, rAll]
    cases rField c s with
    | none => rfl
    | some s1 => exact ih s1
theorem rAll_next {l : Bs} {j : Nat} {c : UInt8} {s x x' : RS} (h : rAll (l.take j) s = some x) (hc : l[j]? = some c) (hf : rField c x = some x') : rAll (l.take (j + 1)) s = some x' := by
  obtain ⟨h1, e1⟩ := List.getElem?_eq_some_iff.1 hc
  rw [List.take_succ_eq_append_getElem h1, rAll_append, h, e1]
  show (rField c x).bind (rAll []) = _
  rw [hf]; rfl
theorem rAll_fail {l : Bs} {j : Nat} {c : UInt8} {s x : RS} (h : rAll (l.take j) s = some x) (hc : l[j]? = some c) (hf : rField c x = none) : rAll l s = none := by
  obtain ⟨h1, e1⟩ := List.getElem?_eq_some_iff.1 hc
  have e : l = l.take j ++ (c :: l.drop (j + 1)) := by rw [← e1, ← List.drop_eq_getElem_cons h1, List.take_append_drop]
  rw [e, rAll_append, h]
  show (rField c x).bind _ = none
  rw [hf]; rfl
theorem readL_some {back : Bool} {c : UInt8} {S : Bs} {l : Bs} (h : lay back c = some l) (hc : ¬ (back = false ∧ c = 0 ∧ isCancel S = true)) : readL back c S = (rAll l ⟨S, [], []⟩).bind rDone := by
  unfold readL layR
  rw [if_neg hc, h]; rfl
theorem readL_cancel {S : Bs} (h : isCancel S = true) : readL false 0 S = (rAll [105, 105, 105] ⟨S, [], []⟩).bind rDone := by
  unfold readL layR
  rw [if_pos ⟨rfl, rfl, h⟩]; rfl
theorem readL_none {back : Bool} {c : UInt8} {S : Bs} (h : lay back c = none) : readL back c S = none := by
  unfold readL layR
  by_cases hc : back = false ∧ c = 0 ∧ isCancel S = true
  · obtain ⟨rfl, rfl, _⟩ := hc
    rw [lay_bare] at h; cases h
  · rw [if_neg hc, h]; rfl

theorem own_four {w : World} {base n : Nat} {e : TypeId} {v : Value} {xs : List Value} (h : w.ownsRow base e 1 v n xs) (b c : Nat) (hb : b < base) (hc : c < base) (v0 v1 v2 v3 : Value) : ((((w.setCell ⟨b, 0, none⟩ v0).setCell ⟨b, 1, none⟩ v1).setCell ⟨b, 2, none⟩ v2).setCell ⟨c, 0, none⟩ v3).drew.ownsRow base e 1 v n xs :=
  (ownsRow_setCell_below (ownsRow_setCell_below (ownsRow_setCell_below (ownsRow_setCell_below h (a := ⟨b, 0, none⟩) hb v0) (a := ⟨b, 1, none⟩) hb v1) (a := ⟨b, 2, none⟩) hb v2) (a := ⟨c, 0, none⟩) hc v3).drew

theorem own_base {w : World} {b b' n : Nat} {e : TypeId} {v : Value} {xs : List Value} (h : w.ownsRow b e 1 v n xs) (hb : b' ≤ b) : w.ownsRow b' e 1 v n xs := by
  refine ⟨h.1, h.2.imp id ?_⟩
  rintro ⟨g, cap, cur, h1, h2, h3⟩
  exact ⟨g, cap, cur, h1, Nat.le_trans hb h2, h3⟩

/-- What a reading leaves: a message, whose rows lie in memory; or none. -/
def MsgOut (w : World) (c : UInt8) (err : Int) (r : Option (List Bs × List Int)) (e : Ending) (w' : World) : Prop :=
  match r with
  | some p => ∃ tv nv, e = .returned (.tuple #[.agg #[.int .u8 (c.toNat : Nat), tv, nv], .int .i64 0]) ∧ w'.ownsRow w.heap.size 9 1 tv p.1.length (tcells p.1) ∧ w'.ownsRow w.heap.size 3 1 nv p.2.length (ncells p.2) ∧ Below w.heap.size w w'
  | none => e = .returned (.tuple #[.agg #[.int .u8 0, .slice none 0 0, .slice none 0 0], .int .i64 err]) ∧ Below w.heap.size w w'

end Go.Proofs.YtpijolcklmdjbaaGreatDoor

namespace Go.Proofs.YtpijolcklmdjbaaGreatDoor
open Go.RowKit Go.Lib Go.WideShapes

set_option maxRecDepth 100000 in
set_option maxHeartbeats 16000000 in
theorem read_none (w : World) (back : Bool) (c : UInt8) (S : Bs) (hl : S.length ≤ 800000) (hlay : lay back c = none) :
    Calls Tryz.prog 23 #[.bool back, .agg #[.int .u8 (c.toNat : Nat), .string ⟨S.toArray⟩]] w (MsgOut w c 2 (readL back c S)) := by
  have hmf : ∀ (fn : Fn) (first cap : Array Value) (w : World), (Instr.makeFunc fn first cap).run Tryz.prog w = .ok (.func fn first cap) w := fun _ _ _ _ => rfl
  obtain ⟨ci, hci⟩ : ∃ ci : Int, ci = (c.toNat : Nat) := ⟨_, rfl⟩
  obtain ⟨sb, hsb⟩ : ∃ sb : ByteArray, sb = ⟨S.toArray⟩ := ⟨_, rfl⟩
  obtain ⟨R, hR⟩ : ∃ R, R = readL back c S := ⟨_, rfl⟩
  rw [← hR, ← hci, ← hsb]
  have HCI := Lib.hid hci; have HR := Lib.hid hR
  obtain ⟨W0, hW0⟩ : ∃ x, x = ((w.alloc (.cells #[.int .u8 ci, .string sb] 33)).alloc (.cells #[.int .u8 0, .slice none 0 0, .slice none 0 0] 39)).alloc (.cells #[.int .i64 0] 26) := ⟨_, rfl⟩
  have hsz : W0.heap.size = w.heap.size + 1 + 1 + 1 := by rw [hW0]; simp
  have HB := Lib.hid (show Below w.heap.size w W0 by rw [hW0]; exact (((Below.refl _ _).alloc (Nat.le_refl _) _).alloc (by simp) _).alloc (by simp; omega) _)
  have HK := Lib.hid (show W0.cell? ⟨w.heap.size + 1, 0, none⟩ = some (.int .u8 0) ∧ W0.cell? ⟨w.heap.size + 1, 1, none⟩ = some (.slice none 0 0) ∧ W0.cell? ⟨w.heap.size + 1, 2, none⟩ = some (.slice none 0 0) ∧ W0.cell? ⟨w.heap.size + 1 + 1, 0, none⟩ = some (.int .i64 0) ∧ W0.frozen? ⟨w.heap.size + 1, 0, none⟩ = false ∧ W0.frozen? ⟨w.heap.size + 1, 1, none⟩ = false ∧ W0.frozen? ⟨w.heap.size + 1, 2, none⟩ = false ∧ W0.frozen? ⟨w.heap.size + 1 + 1, 0, none⟩ = false by rw [hW0]; simp [go_sem])
  have F0 := Lib.hid (show ∀ W, Below W0.heap.size W0 W → W.cell? ⟨w.heap.size, 0, none⟩ = some (.int .u8 ci) ∧ W.cell? ⟨w.heap.size, 1, none⟩ = some (.string sb) from by
    intro W hW
    have k : ∀ i, W.cell? ⟨w.heap.size, i, none⟩ = W0.cell? ⟨w.heap.size, i, none⟩ := fun i => hW.cell (p := ⟨w.heap.size, i, none⟩) (by show w.heap.size < _; omega)
    exact ⟨(k 0).trans (by rw [hW0]; simp [go_sem]), (k 1).trans (by rw [hW0]; simp [go_sem])⟩)
  have HNEW := Lib.hid (isd_new W0 S)
  have HRR := Lib.hid (show droom ⟨S, [], []⟩ ≤ 850000 by show S.length + 0 ≤ _; omega)
  have HE := Lib.hid hW0
  have HSZ := Lib.hid hsz
  have HIC := Lib.hid (fun W => iscancel_any W S hl)
  rw [← hsb] at HNEW HIC
  have HLY := Lib.hid (fun W => lay_any W back c)
  rw [← hci] at HLY
  clear hW0 hsz hR hsb hl
  rw [hlay] at HLY
  have HNO := Lib.hid (HR.out.trans (readL_none hlay))
  clear hlay hci
  go_enter_defers Tryz.func23, Tryz.ntmps23
  go_wp2_with fail
  refine (HLY.out _).mono ?_; rintro e w1 ⟨rfl, rfl⟩
  unfold layV
  go_wp2_with fail
  refine (demand_no _).mono ?_; rintro e w2 ⟨rfl, rfl⟩
  go_wp2_with fail
  rw [← HE.out]
  have kk := HK.out
  have b0 : W0.cell? ⟨w.heap.size + 1, 0, none⟩ = some (.int .u8 0) := ((Below.refl W0.heap.size W0).cell (p := ⟨w.heap.size + 1, 0, none⟩) (by show w.heap.size + 1 < _; rw [HSZ.out]; omega)).trans kk.1
  have b1 : W0.cell? ⟨w.heap.size + 1, 1, none⟩ = some (.slice none 0 0) := ((Below.refl W0.heap.size W0).cell (p := ⟨w.heap.size + 1, 1, none⟩) (by show w.heap.size + 1 < _; rw [HSZ.out]; omega)).trans kk.2.1
  have b2 : W0.cell? ⟨w.heap.size + 1, 2, none⟩ = some (.slice none 0 0) := ((Below.refl W0.heap.size W0).cell (p := ⟨w.heap.size + 1, 2, none⟩) (by show w.heap.size + 1 < _; rw [HSZ.out]; omega)).trans kk.2.2.1
  have b3 : W0.cell? ⟨w.heap.size + 1 + 1, 0, none⟩ = some (.int .i64 0) := ((Below.refl W0.heap.size W0).cell (p := ⟨w.heap.size + 1 + 1, 0, none⟩) (by show w.heap.size + 1 + 1 < _; rw [HSZ.out]; omega)).trans kk.2.2.2.1
  have g0 : W0.frozen? ⟨w.heap.size + 1, 0, none⟩ = false := ((Below.refl W0.heap.size W0).frozen (p := ⟨w.heap.size + 1, 0, none⟩) (by show w.heap.size + 1 < _; rw [HSZ.out]; omega)).trans kk.2.2.2.2.1
  have g1 : W0.frozen? ⟨w.heap.size + 1, 1, none⟩ = false := ((Below.refl W0.heap.size W0).frozen (p := ⟨w.heap.size + 1, 1, none⟩) (by show w.heap.size + 1 < _; rw [HSZ.out]; omega)).trans kk.2.2.2.2.2.1
  have g2 : W0.frozen? ⟨w.heap.size + 1, 2, none⟩ = false := ((Below.refl W0.heap.size W0).frozen (p := ⟨w.heap.size + 1, 2, none⟩) (by show w.heap.size + 1 < _; rw [HSZ.out]; omega)).trans kk.2.2.2.2.2.2.1
  have g3 : W0.frozen? ⟨w.heap.size + 1 + 1, 0, none⟩ = false := ((Below.refl W0.heap.size W0).frozen (p := ⟨w.heap.size + 1 + 1, 0, none⟩) (by show w.heap.size + 1 + 1 < _; rw [HSZ.out]; omega)).trans kk.2.2.2.2.2.2.2
  clear kk
  unfold errV
  refine leaves_cons (f := 43) (args := #[.pointer (some ⟨w.heap.size + 1, 0, none⟩), .pointer (some ⟨w.heap.size + 1 + 1, 0, none⟩)]) (by simp) (by simp [go_sem]) ?_
  refine (catch_read (w.heap.size + 1) (w.heap.size + 1 + 1) _ _ _ _ _ _ _ _ (by omega) b0 b1 b2 b3 g0 g1 g2 g3).mono ?_
  rintro e u' w'' ⟨rfl, rfl, rfl⟩
  have HNO := Lib.hid (show R = none from HNO.out)
  have HBB := Lib.hid (HB.out.trans ((Below.refl W0.heap.size W0).mono (by rw [HSZ.out]; omega)))
  rw [HNO.out]
  simp [Leaves, settle, results, Tryz.results23, go_sem, b0, b1, b2, b3]
  exact ⟨rfl, (((HBB.out.setCell (by show w.heap.size ≤ w.heap.size + 1; omega) _).setCell (by show w.heap.size ≤ w.heap.size + 1; omega) _).setCell (by show w.heap.size ≤ w.heap.size + 1; omega) _).setCell (by show w.heap.size ≤ w.heap.size + 1 + 1; omega) _⟩
end Go.Proofs.YtpijolcklmdjbaaGreatDoor
