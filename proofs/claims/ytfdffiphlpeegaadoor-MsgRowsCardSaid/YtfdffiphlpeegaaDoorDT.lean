/- The reader: texts. -/
import Derived.Test.YtfdffiphlpeegaaDoorDL
namespace Go.Proofs.YtfdffiphlpeegaaDoor
open Go.RowKit Go.Lib Go.WideShapes

theorem index_while : ∀ l : Bs, (0 : UInt8) ∈ l → Lib.indexByte l 0 = ((l.takeWhile (· != 0)).length : Nat) := by
  intro l
  induction l with
  | nil => intro h; cases h
  | cons b l ih =>
    intro h
    have e : Lib.indexByte (b :: l) 0 = if b == 0 then 0 else if Lib.indexByte l 0 == -1 then -1 else Lib.indexByte l 0 + 1 := rfl
    rw [e]
    by_cases hb : b = 0
    · subst hb; rfl
    · have hb' : (b == 0) = false := by simpa using hb
      have hb2 : (b != 0) = true := bne_iff_ne.2 hb
      have hm : (0 : UInt8) ∈ l := (List.mem_cons.1 h).resolve_left fun e => hb e.symm
      rw [hb', if_neg (by simp), ih hm, List.takeWhile_cons, hb2]
      have hne : (((l.takeWhile (· != 0)).length : Int) == -1) = false := by rw [beq_eq_false_iff_ne]; omega
      rw [hne, if_neg (by simp)]
      show _ = (((b :: l.takeWhile (· != 0)).length : Nat) : Int)
      rw [List.length_cons]; omega
theorem info_str : (Tryd.prog.info? 9).map (fun i => (i.zero, i.size, i.bytes)) = some (some (.string { data := #[] }), 1, 16) := by kernel_rfl
theorem while_len (l : Bs) : (l.takeWhile (· != 0)).length ≤ l.length := by
  induction l with
  | nil => exact Nat.le_refl _
  | cons b l ih => rw [List.takeWhile_cons]; split <;> simp <;> omega

/-- A text found: what the two takes leave. -/
theorem text_parts {s : RS} (h : (0 : UInt8) ∈ s.S) : rTake (s.S.takeWhile (· != 0)).length s = some (s.S.takeWhile (· != 0), { s with S := 0 :: s.S.drop ((s.S.takeWhile (· != 0)).length + 1) }) := by
  obtain ⟨e1, _⟩ := while_out h
  have := take_pre (s.S.takeWhile (· != 0)) (0 :: s.S.drop ((s.S.takeWhile (· != 0)).length + 1)) s.T s.N
  rw [← e1] at this
  exact this

/-- What a take that goes well leaves. -/
def TakeIs (w0 : World) (tv nv : Value) (b : Bs) (s : RS) (e : Ending) (w' : World) : Prop := e = .returned (.string ⟨b.toArray⟩) ∧ DAt w0 w' s tv nv
theorem take_is {w0 w : World} {s s1 : RS} {tv nv : Value} {n : Nat} {b : Bs} (hr : rTake n s = some (b, s1)) (hl : s.S.length ≤ 1000000) (hW : DAt w0 w s tv nv) :
    Calls Tryd.prog 63 #[.pointer (some ⟨w0.heap.size, 0, none⟩), .int .i64 n] w (TakeIs w0 tv nv b s1) := by
  refine (take_at w0 w s tv nv n hl hW).mono ?_
  rintro e w' (⟨b', s', h1, h2, h3⟩ | ⟨h1, _⟩)
  · rw [hr] at h1
    obtain ⟨rfl, rfl⟩ := Prod.mk.inj (Option.some.inj h1)
    exact ⟨h2, h3⟩
  · rw [hr] at h1; cases h1

set_option maxRecDepth 100000 in
set_option maxHeartbeats 8000000 in
theorem text_r (w0 w : World) (s : RS) (hl : droom s ≤ 900000) (h : IsD w0 w s) :
    Calls Tryd.prog 37 #[.pointer (some ⟨w0.heap.size, 0, none⟩)] w (DOut w0 (rText s)) := by
  obtain ⟨i0, hi, y0, y1, y2⟩ := info_parts info_str
  obtain ⟨tv, nv, hW⟩ := h
  have c0 := hW.c0
  have HW := Lib.hid hW
  have hSl : s.S.length ≤ 1000000 := by unfold droom at hl; omega
  have hTl : s.T.length ≤ 1000000 := by unfold droom at hl; omega
  clear hW hl
  have HIX := Lib.hid (Tryd.strings_IndexByte ⟨s.S.toArray⟩ 0 w)
  by_cases h0 : (0 : UInt8) ∈ s.S
  · have HR := Lib.hid (show rText s = some { s with S := s.S.drop ((s.S.takeWhile (· != 0)).length + 1), T := s.T ++ [s.S.takeWhile (· != 0)] } from if_pos h0)
    have hix := index_while s.S h0
    rw [show Lib.indexByte (⟨s.S.toArray⟩ : ByteArray).data.toList (0 : Int).toNat.toUInt8 = Lib.indexByte s.S 0 from rfl, hix] at HIX
    have HTK := Lib.hid (fun W (hD : DAt w0 W s tv nv) => take_is (text_parts h0) hSl hD)
    have hwl := while_len s.S
    rw [HR.out]
    obtain ⟨t, ht⟩ : ∃ t, t = s.S.takeWhile (· != 0) := ⟨_, rfl⟩
    rw [← ht] at HTK HIX hwl ⊢
    obtain ⟨S1, hS1⟩ : ∃ S1, S1 = s.S.drop (t.length + 1) := ⟨_, rfl⟩
    have hS1l : S1.length + 1 ≤ 1000000 := by rw [hS1, List.length_drop]; have := List.length_pos_of_mem h0; omega
    rw [← hS1] at HTK ⊢
    obtain ⟨a, c, rfl⟩ := ownsRow_form HW.out.texts
    have htl : (t.length : Int) ≤ 1000000 := by omega
    clear ht hS1 HR hix h0 hwl
    go_enter Tryd.func37, Tryd.ntmps37
    go_wp2_with fail
    refine HIX.out.mono ?_; rintro e w1 ⟨rfl, rfl⟩
    go_wp2_with fail
    refine (demand_ok _).mono ?_; rintro e w2 ⟨rfl, rfl⟩
    go_upto_region 2 with (fail)
    have c1 := HW.out.c1
    obtain ⟨TL, hTL⟩ : ∃ TL : Nat, TL = s.T.length := ⟨_, rfl⟩
    have HTL := Lib.hid hTL
    rw [← hTL] at HTK HW c1 hTl
    clear hTL
    go_region_law (first | (go_simp; go_at_call 63; refine (HTK.out _ HW.out.drew).mono ?_; rintro e w5 ⟨rfl, hW5⟩; have HW5 := Lib.hid hW5; have d1 := hW5.c1; have g1 := hW5.f1; have z5 := hW5.lt; clear hW5) | (refine step_append_own rfl (.tmp 15) (.tmp 19) 25 rfl (w0.heap.size + 1) 9 i0 (.string { data := #[] }) 1 16 Tryd.underlying25 hi y0 y1 y2 rfl (by decide) (.slice a TL c) TL (tcells s.T) (by simp [Act.eval]) (by have := HW5.out.texts.alloc (.cells #[.string ⟨t.toArray⟩] 9); rw [show ({ S := 0 :: S1, T := s.T, N := s.N } : RS).T.length = TL from HTL.out.symm] at this; exact this) ⟨w5.heap.size, 0, none⟩ 1 1 [.string ⟨t.toArray⟩] (by simp [Act.eval]) rfl ?c1 ?c2 ?c3 ?c4 ?c5 ?_; (case c1 => (intro j u h; rw [add_plain, Nat.zero_add, ← h]; exact (World.cell?_alloc_new w5 _ _ j).trans (by simp))); (case c2 => (intro u hu; simp at hu; rcases hu with rfl; rfl)); (case c3 => (unfold maxLen; omega)); (case c4 => omega); (case c5 => (first | omega | (simp; omega))); intro v' w6 hO6 hg6; obtain ⟨a', c', rfl⟩ := ownsRow_form hO6; have HB6 := Lib.hid (HW5.out.grewT hg6); obtain ⟨_, ⟨e2, g2⟩, hz6⟩ := HW5.out.afterN HB6.out; have HP6 := Lib.hid (HW5.out.put1 (T := s.T ++ [t]) HB6.out (by rw [tcells_append, List.length_append, ← HTL.out]; exact hO6) (HW5.out.rowN hg6)); clear hO6 hg6))
    all_goals
      go_wp2_with fail
      refine (take_is (n := 1) (b := [0]) (s1 := { S := S1, T := s.T ++ [t], N := s.N }) (by unfold rTake; rw [if_pos (by show 1 ≤ (0 :: S1).length; simp)]; rfl) (by show (0 :: S1).length ≤ _; rw [List.length_cons]; omega) HP6.out).mono ?_; rintro e w7 ⟨rfl, hW7⟩
      have HW7 := Lib.hid hW7
      clear hW7
      go_wp2_with fail
      go_end0
      exact .inl ⟨_, rfl, rfl, _, _, HW7.out⟩
  · have HR := Lib.hid (show rText s = none from if_neg h0)
    rw [show Lib.indexByte (⟨s.S.toArray⟩ : ByteArray).data.toList (0 : Int).toNat.toUInt8 = Lib.indexByte s.S 0 from rfl, (ib_in s.S).2 h0] at HIX
    rw [HR.out]
    clear h0 HR
    go_enter Tryd.func37, Tryd.ntmps37
    go_wp2_with fail
    refine HIX.out.mono ?_; rintro e w1 ⟨rfl, rfl⟩
    go_wp2_with fail
    refine (demand_no _).mono ?_; rintro e w2 ⟨rfl, rfl⟩
    go_wp2_with fail
    exact ⟨rfl, .inr ⟨rfl, rfl, HW.out.below⟩⟩
end Go.Proofs.YtfdffiphlpeegaaDoor
