/- Contracts and mathematics: DT, DTrim, DRM, DLast. -/
import Derived.Test.YtmofnkinclckoaaGreatDoorZ12
namespace Go.Proofs.YtmofnkinclckoaaGreatDoor
open Go.RowKit Go.Lib Go.WideShapes

theorem index_while : ∀ l : Bs, (0 : UInt8) ∈ l → Lib.indexByte l 0 = ((l.takeWhile (· != 0)).length : Nat) := by
  intro l
  induction l with
  | nil => intro h; cases h
  | cons b l ih =>
    intro h
    have e : Lib.indexByte (b :: l) 0 = if b == 0 then 0 else if Lib.indexByte l 0 == -1 then -1 else Lib.indexByte l 0 + 1 := rfl
    rw [e]
    by_cases hb : b = 0
    · subst hb; rfl
    · have hb' : (b == 0) = false := by simpa using hb
      have hb2 : (b != 0) = true := bne_iff_ne.2 hb
      have hm : (0 : UInt8) ∈ l := (List.mem_cons.1 h).resolve_left fun e => hb e.symm
      rw [hb', if_neg (by simp), ih hm, List.takeWhile_cons, hb2]
      have hne : (((l.takeWhile (· != 0)).length : Int) == -1) = false := by rw [beq_eq_false_iff_ne]; omega
      rw [hne, if_neg (by simp)]
      show _ = (((b :: l.takeWhile (· != 0)).length : Nat) : Int)
      rw [List.length_cons]; omega
theorem info_str : (Tryz.prog.info? 9).map (fun i => (i.zero, i.size, i.bytes)) = some (some (.string { data := #[] }), 1, 16) := by kernel_rfl
theorem while_len (l : Bs) : (l.takeWhile (· != 0)).length ≤ l.length := by
  induction l with
  | nil => exact Nat.le_refl _
  | cons b l ih => rw [List.takeWhile_cons]; split <;> simp <;> omega

/-- A text found: what the two takes leave. -/
theorem text_parts {s : RS} (h : (0 : UInt8) ∈ s.S) : rTake (s.S.takeWhile (· != 0)).length s = some (s.S.takeWhile (· != 0), { s with S := 0 :: s.S.drop ((s.S.takeWhile (· != 0)).length + 1) }) := by
  obtain ⟨e1, _⟩ := while_out h
  have := take_pre (s.S.takeWhile (· != 0)) (0 :: s.S.drop ((s.S.takeWhile (· != 0)).length + 1)) s.T s.N
  rw [← e1] at this
  exact this

/-- What a take that goes well leaves. -/
def TakeIs (w0 : World) (tv nv : Value) (b : Bs) (s : RS) (e : Ending) (w' : World) : Prop := e = .returned (.string ⟨b.toArray⟩) ∧ DAt w0 w' s tv nv
theorem take_is {w0 w : World} {s s1 : RS} {tv nv : Value} {n : Nat} {b : Bs} (hr : rTake n s = some (b, s1)) (hl : s.S.length ≤ 1000000) (hW : DAt w0 w s tv nv) :
    Calls Tryz.prog 75 #[.pointer (some ⟨w0.heap.size, 0, none⟩), .int .i64 n] w (TakeIs w0 tv nv b s1) := by
  refine (take_at w0 w s tv nv n hl hW).mono ?_
  rintro e w' (⟨b', s', h1, h2, h3⟩ | ⟨h1, _⟩)
  · rw [hr] at h1
    obtain ⟨rfl, rfl⟩ := Prod.mk.inj (Option.some.inj h1)
    exact ⟨h2, h3⟩
  · rw [hr] at h1; cases h1

set_option maxRecDepth 100000 in
set_option maxHeartbeats 8000000 in
theorem text_r (w0 w : World) (s : RS) (hl : droom s ≤ 900000) (h : IsD w0 w s) :
    Calls Tryz.prog 48 #[.pointer (some ⟨w0.heap.size, 0, none⟩)] w (DOut w0 (rText s)) := by
  obtain ⟨i0, hi, y0, y1, y2⟩ := info_parts info_str
  obtain ⟨tv, nv, hW⟩ := h
  have c0 := hW.c0
  have HW := Lib.hid hW
  have hSl : s.S.length ≤ 1000000 := by unfold droom at hl; omega
  have hTl : s.T.length ≤ 1000000 := by unfold droom at hl; omega
  clear hW hl
  have HIX := Lib.hid (Tryz.strings_IndexByte ⟨s.S.toArray⟩ 0 w)
  by_cases h0 : (0 : UInt8) ∈ s.S
  · have HR := Lib.hid (show rText s = some { s with S := s.S.drop ((s.S.takeWhile (· != 0)).length + 1), T := s.T ++ [s.S.takeWhile (· != 0)] } from if_pos h0)
    have hix := index_while s.S h0
    rw [show Lib.indexByte (⟨s.S.toArray⟩ : ByteArray).data.toList (0 : Int).toNat.toUInt8 = Lib.indexByte s.S 0 from rfl, hix] at HIX
    have HTK := Lib.hid (fun W (hD : DAt w0 W s tv nv) => take_is (text_parts h0) hSl hD)
    have hwl := while_len s.S
    rw [HR.out]
    obtain ⟨t, ht⟩ : ∃ t, t = s.S.takeWhile (· != 0) := ⟨_, rfl⟩
    rw [← ht] at HTK HIX hwl ⊢
    obtain ⟨S1, hS1⟩ : ∃ S1, S1 = s.S.drop (t.length + 1) := ⟨_, rfl⟩
    have hS1l : S1.length + 1 ≤ 1000000 := by rw [hS1, List.length_drop]; have := List.length_pos_of_mem h0; omega
    rw [← hS1] at HTK ⊢
    obtain ⟨a, c, rfl⟩ := ownsRow_form HW.out.texts
    have htl : (t.length : Int) ≤ 1000000 := by omega
    clear ht hS1 HR hix h0 hwl
    go_enter Tryz.func48, Tryz.ntmps48
    go_wp2_with fail
    refine HIX.out.mono ?_; rintro e w1 ⟨rfl, rfl⟩
    go_wp2_with fail
    refine (demand_ok _).mono ?_; rintro e w2 ⟨rfl, rfl⟩
    go_upto_region 2 with (fail)
    have c1 := HW.out.c1
    obtain ⟨TL, hTL⟩ : ∃ TL : Nat, TL = s.T.length := ⟨_, rfl⟩
    have HTL := Lib.hid hTL
    rw [← hTL] at HTK HW c1 hTl
    clear hTL
    go_region_law (first | (go_simp; go_at_call 75; refine (HTK.out _ HW.out.drew).mono ?_; rintro e w5 ⟨rfl, hW5⟩; have HW5 := Lib.hid hW5; have d1 := hW5.c1; have g1 := hW5.f1; have z5 := hW5.lt; clear hW5) | (refine step_append_own rfl (.tmp 15) (.tmp 19) 22 rfl (w0.heap.size + 1) 9 i0 (.string { data := #[] }) 1 16 Tryz.underlying22 hi y0 y1 y2 rfl (by decide) (.slice a TL c) TL (tcells s.T) (by simp [Act.eval]) (by have := HW5.out.texts.alloc (.cells #[.string ⟨t.toArray⟩] 9); rw [show ({ S := 0 :: S1, T := s.T, N := s.N } : RS).T.length = TL from HTL.out.symm] at this; exact this) ⟨w5.heap.size, 0, none⟩ 1 1 [.string ⟨t.toArray⟩] (by simp [Act.eval]) rfl ?c1 ?c2 ?c3 ?c4 ?c5 ?_; (case c1 => (intro j u h; rw [Go.WideShapes.add_plain, Nat.zero_add, ← h]; exact (World.cell?_alloc_new w5 _ _ j).trans (by simp))); (case c2 => (intro u hu; simp at hu; rcases hu with rfl; rfl)); (case c3 => (unfold maxLen; omega)); (case c4 => omega); (case c5 => (first | omega | (simp; omega))); intro v' w6 hO6 hg6; obtain ⟨a', c', rfl⟩ := ownsRow_form hO6; have HB6 := Lib.hid (HW5.out.grewT hg6); obtain ⟨_, ⟨e2, g2⟩, hz6⟩ := HW5.out.afterN HB6.out; have HP6 := Lib.hid (HW5.out.put1 (T := s.T ++ [t]) HB6.out (by rw [tcells_append, List.length_append, ← HTL.out]; exact hO6) (HW5.out.rowN hg6)); clear hO6 hg6))
    all_goals
      go_wp2_with fail
      refine (take_is (n := 1) (b := [0]) (s1 := { S := S1, T := s.T ++ [t], N := s.N }) (by unfold rTake; rw [if_pos (by show 1 ≤ (0 :: S1).length; simp)]; rfl) (by show (0 :: S1).length ≤ _; rw [List.length_cons]; omega) HP6.out).mono ?_; rintro e w7 ⟨rfl, hW7⟩
      have HW7 := Lib.hid hW7
      clear hW7
      go_wp2_with fail
      go_end0
      exact .inl ⟨_, rfl, rfl, _, _, HW7.out⟩
  · have HR := Lib.hid (show rText s = none from if_neg h0)
    rw [show Lib.indexByte (⟨s.S.toArray⟩ : ByteArray).data.toList (0 : Int).toNat.toUInt8 = Lib.indexByte s.S 0 from rfl, (ib_in s.S).2 h0] at HIX
    rw [HR.out]
    clear h0 HR
    go_enter Tryz.func48, Tryz.ntmps48
    go_wp2_with fail
    refine HIX.out.mono ?_; rintro e w1 ⟨rfl, rfl⟩
    go_wp2_with fail
    refine (demand_no _).mono ?_; rintro e w2 ⟨rfl, rfl⟩
    go_wp2_with fail
    exact ⟨rfl, .inr ⟨rfl, rfl, HW.out.below⟩⟩
end Go.Proofs.YtmofnkinclckoaaGreatDoor

namespace Go.Proofs.YtmofnkinclckoaaGreatDoor
open Go.RowKit Go.Lib Go.WideShapes

/-- What a trimming of bytes 0 leaves of l. -/
def TrimOut (l : Bs) (w : World) (e : Ending) (w' : World) : Prop := ∃ r : ByteArray, e = .returned (.string r) ∧ w' = w ∧ r.size ≤ l.length ∧ ((r.size = 0 ∧ ∀ b ∈ l, b = 0) ∨ ((∃ b ∈ bytes r, b ≠ 0) ∧ ∃ b ∈ l, b ≠ 0))
def strLen : Value → Nat
  | .string s => s.size
  | _ => 0
theorem bytes_cut (X : ByteArray) (h : 0 < X.size) : bytes X = bytes (X.extract 0 (X.size - 1)) ++ [X[X.size - 1]'(by omega)] := by
  have hl : (bytes X).length = X.size := blen X
  have e1 : bytes (X.extract 0 (X.size - 1)) = (bytes X).take (X.size - 1) := by
    have hx : X.data.toList.length = X.size := hl
    simp only [bytes, ByteArray.data_extract, Array.toList_extract, List.extract_eq_take_drop, List.drop_zero, Nat.sub_zero]
  rw [e1]
  have h2 : X.size - 1 < (bytes X).length := by omega
  have e2 := List.take_succ_eq_append_getElem h2
  rw [show X.size - 1 + 1 = (bytes X).length by omega, List.take_length] at e2
  exact e2
theorem bytes_behead (X : ByteArray) (h : 0 < X.size) : bytes X = X[0] :: bytes (X.extract 1 X.size) := by
  have hl : (bytes X).length = X.size := blen X
  have e1 : bytes (X.extract 1 X.size) = (bytes X).drop 1 := by
    simp [bytes, ByteArray.data_extract, List.take_of_length_le]
  rw [e1]
  have h2 : 0 < (bytes X).length := by omega
  have e2 := List.drop_eq_getElem_cons h2
  rw [List.drop_zero] at e2
  exact e2
theorem size_cut1 (X : ByteArray) (h : 0 < X.size) : (X.extract 0 (X.size - 1)).size = X.size - 1 := by
  have := congrArg List.length (bytes_cut X h)
  rw [List.length_append, blen, blen, List.length_singleton] at this
  omega
theorem size_behead (X : ByteArray) (h : 0 < X.size) : (X.extract 1 X.size).size = X.size - 1 := by
  have := congrArg List.length (bytes_behead X h)
  rw [List.length_cons, blen, blen] at this
  omega

set_option maxRecDepth 100000 in
set_option maxHeartbeats 8000000 in
theorem trimR_any (s : ByteArray) (w : World) (hs : s.size ≤ 1000000) :
    Calls Tryz.prog 89 #[.string s, .int .u8 0] w (TrimOut (bytes s) w) := by
  go_enter Tryz.func89, Tryz.ntmps89
  go_wp2_with fail
  go_loopw [0, 0] (fun v _ wx => ∃ X : ByteArray, v = .string X ∧ X.size ≤ s.size ∧ (∃ Z : Bs, bytes s = bytes X ++ Z ∧ ∀ b ∈ Z, b = 0) ∧ wx = w) (fun v _ _ => strLen v)
  case atStart => exact ⟨s, rfl, Nat.le_refl _, ⟨[], by simp, by simp⟩, rfl⟩
  case round =>
    obtain ⟨X, rfl, hX, hZ, hwr⟩ := hrel
    subst hwr
    have HZ := Lib.hid hZ
    clear hZ
    by_cases h0 : 0 < X.size
    · have h0' : (0 : Int) < X.size := by omega
      have h1' : (0 : Int) ≤ (X.size : Int) - 1 := by omega
      have hk : ((X.size : Int) - 1).toNat = X.size - 1 := by omega
      have HC := Lib.hid (bytes_cut X h0)
      have HSZ := Lib.hid (size_cut1 X h0)
      have hlt : X.size - 1 < X.size := by omega
      by_cases hb : X[X.size - 1] = 0
      · have hb0 : ((X[X.size - 1].toNat : Int) == 0) = true := by rw [hb]; rfl
        go_wp2_with fail
        go_roundw
        case measure => show (X.extract 0 (X.size - 1)).size < X.size; rw [HSZ.out]; omega
        case rel =>
          obtain ⟨Z, hz1, hz2⟩ := HZ.out
          refine ⟨_, rfl, by rw [HSZ.out]; omega, ⟨[0] ++ Z, ?_, ?_⟩, by trivial⟩
          · rw [hz1, HC.out, hb, List.append_assoc]
          · intro b hbm
            rcases List.mem_append.1 hbm with h | h
            · exact List.mem_singleton.1 h
            · exact hz2 b h
      · have hb0 : ((X[X.size - 1].toNat : Int) == 0) = false := by
          rw [beq_eq_false_iff_ne]; intro e
          exact hb (UInt8.toNat_inj.mp (by have : X[X.size - 1].toNat = 0 := by omega
                                           exact this))
        have HB := Lib.hid hb
        clear hb
        go_wp2_with fail
        go_ret
        obtain ⟨Z, hz1, _⟩ := HZ.out
        have hm : X[X.size - 1] ∈ bytes X := by rw [HC.out]; simp
        exact ⟨X, rfl, rfl, by rw [blen]; exact hX, .inr ⟨⟨_, hm, HB.out⟩, ⟨_, by rw [hz1]; exact List.mem_append_left _ hm, HB.out⟩⟩⟩
    · have hz : X.size = 0 := by omega
      have HZ0 := Lib.hid hz
      have h0' : ¬ (0 : Int) < X.size := by omega
      clear hz
      go_wp2_with fail
      go_ret
      obtain ⟨Z, hz1, hz2⟩ := HZ.out
      have he : bytes X = [] := List.length_eq_zero_iff.1 (by rw [blen]; exact HZ0.out)
      rw [he, List.nil_append] at hz1
      exact ⟨X, rfl, rfl, by rw [blen]; exact hX, .inl ⟨HZ0.out, by rw [hz1]; exact hz2⟩⟩

set_option maxRecDepth 100000 in
set_option maxHeartbeats 8000000 in
theorem trimL_any (s : ByteArray) (w : World) :
    Calls Tryz.prog 88 #[.string s, .int .u8 0] w (TrimOut (bytes s) w) := by
  go_enter Tryz.func88, Tryz.ntmps88
  go_wp2_with fail
  go_loopw [0, 0] (fun v _ wx => ∃ X : ByteArray, v = .string X ∧ X.size ≤ s.size ∧ (∃ Z : Bs, bytes s = Z ++ bytes X ∧ ∀ b ∈ Z, b = 0) ∧ wx = w) (fun v _ _ => strLen v)
  case atStart => exact ⟨s, rfl, Nat.le_refl _, ⟨[], by simp, by simp⟩, rfl⟩
  case round =>
    obtain ⟨X, rfl, hX, hZ, hwr⟩ := hrel
    subst hwr
    have HZ := Lib.hid hZ
    clear hZ
    by_cases h0 : 0 < X.size
    · have h0' : (0 : Int) < X.size := by omega
      have h1 : (1 : Int) ≤ X.size := by omega
      have HC := Lib.hid (bytes_behead X h0)
      have HSZ := Lib.hid (size_behead X h0)
      by_cases hb : X[0] = 0
      · have hb0 : ((X[0].toNat : Int) == 0) = true := by rw [hb]; rfl
        go_wp2_with fail
        go_roundw
        case measure => show (X.extract 1 X.size).size < X.size; rw [HSZ.out]; omega
        case rel =>
          obtain ⟨Z, hz1, hz2⟩ := HZ.out
          refine ⟨_, rfl, by rw [HSZ.out]; omega, ⟨Z ++ [0], ?_, ?_⟩, by trivial⟩
          · rw [hz1, HC.out, hb, List.append_assoc]; rfl
          · intro b hbm
            rcases List.mem_append.1 hbm with h | h
            · exact hz2 b h
            · exact List.mem_singleton.1 h
      · have hb0 : ((X[0].toNat : Int) == 0) = false := by
          rw [beq_eq_false_iff_ne]; intro e
          exact hb (UInt8.toNat_inj.mp (by have : X[0].toNat = 0 := by omega
                                           exact this))
        have HB := Lib.hid hb
        clear hb
        go_wp2_with fail
        go_ret
        obtain ⟨Z, hz1, _⟩ := HZ.out
        have hm : X[0] ∈ bytes X := by rw [HC.out]; exact List.mem_cons_self ..
        exact ⟨X, rfl, rfl, by rw [blen]; exact hX, .inr ⟨⟨_, hm, HB.out⟩, ⟨_, by rw [hz1]; exact List.mem_append_right _ hm, HB.out⟩⟩⟩
    · have hz : X.size = 0 := by omega
      have HZ0 := Lib.hid hz
      have h0' : ¬ (0 : Int) < X.size := by omega
      clear hz
      go_wp2_with fail
      go_ret
      obtain ⟨Z, hz1, hz2⟩ := HZ.out
      have he : bytes X = [] := List.length_eq_zero_iff.1 (by rw [blen]; exact HZ0.out)
      rw [he, List.append_nil] at hz1
      exact ⟨X, rfl, rfl, by rw [blen]; exact hX, .inl ⟨HZ0.out, by rw [hz1]; exact hz2⟩⟩

/-- What Trim leaves of l. -/
def TrimAll (l : Bs) (w : World) (e : Ending) (w' : World) : Prop := ∃ r : ByteArray, e = .returned (.string r) ∧ (r.size = 0 ↔ ∀ b ∈ l, b = 0) ∧ Below w.heap.size w w'
set_option maxRecDepth 100000 in
set_option maxHeartbeats 8000000 in
theorem trim_any (s : ByteArray) (w : World) (h0 : 0 < s.size) (hs : s.size ≤ 1000000) :
    Calls Tryz.prog 77 #[.string s, .string { data := #[0] }] w (TrimAll (bytes s) w) := by
  have hne : (s.toList == ([] : List UInt8)) = false := by
    rw [toList_eq, beq_eq_false_iff_ne]; intro e
    have h1 : (bytes s).length = s.size := blen s
    rw [show bytes s = [] from e] at h1
    have h2 : ([] : Bs).length = 0 := rfl
    omega
  go_enter Tryz.func77, Tryz.ntmps77
  go_upto_region 4 with (fail)
  go_region_with (first | (go_at_call 89; refine (trimR_any s _ hs).mono ?_; rintro e w5 ⟨r, rfl, rfl, hrl, hr⟩; have HRL := Lib.hid hrl; have HR := Lib.hid hr; clear hrl hr) | (go_at_call 88; refine (trimL_any r _).mono ?_; rintro e w6 ⟨q, rfl, rfl, hql, hq⟩; have HQL := Lib.hid hql; have HQ := Lib.hid hq; clear hql hq))
  all_goals
    go_wp2_with fail
    go_ret
    refine ⟨q, rfl, ?_, (Below.refl _ _).drew⟩
    rcases HR.out with ⟨e1, e2⟩ | ⟨⟨b, e1, e1'⟩, c, e2, e2'⟩
    · have hq0 : q.size = 0 := by have := HQL.out; rw [blen] at this; omega
      exact ⟨fun _ => e2, fun _ => hq0⟩
    · rcases HQ.out with ⟨g1, g2⟩ | ⟨⟨d, g1, g1'⟩, _⟩
      · exact absurd (g2 b e1) e1'
      · constructor
        · intro h
          have : bytes q = [] := List.length_eq_zero_iff.1 (by rw [blen]; exact h)
          rw [this] at g1; cases g1
        · intro h; exact absurd (h c e2) e2'
end Go.Proofs.YtmofnkinclckoaaGreatDoor

namespace Go.Proofs.YtmofnkinclckoaaGreatDoor

def Nar (f : RS → Option RS) : Prop := ∀ s s', f s = some s' → droom s' ≤ droom s
theorem dtake_room {k : Nat} {b : Bs} {s s' : RS} (h : rTake k s = some (b, s')) : s'.S.length + k = s.S.length ∧ droom s' + k = droom s := by
  obtain ⟨e1, e2, e3, e4⟩ := take_out h
  have := congrArg List.length e1
  rw [List.length_append, e2] at this
  refine ⟨by omega, ?_⟩
  unfold droom
  rw [e3, e4]; omega
theorem signed_room {k : Nat} {n : Int} {s s' : RS} (h : rSigned k s = some (n, s')) : s'.S.length + k = s.S.length ∧ droom s' + k = droom s := by
  obtain ⟨b, e1, e2, _, _, e5, e6⟩ := signed_out h
  have := congrArg List.length e1
  rw [List.length_append, e2] at this
  refine ⟨by omega, ?_⟩
  unfold droom
  rw [e5, e6]; omega
theorem keep_room (n : Int) (s : RS) : droom (rKeep n s) = droom s + 1 := by
  unfold droom rKeep
  show s.S.length + (s.T.length + (s.N ++ [n]).length) = _
  rw [List.length_append, List.length_singleton]; omega
theorem nar_num (k : Nat) (hk : 1 ≤ k) : Nar (fun s => (rSigned k s).map fun p => rKeep p.1 p.2) := by
  intro s s' h
  cases hx : rSigned k s with
  | none => simp only [hx] at h; cases h
  | some p =>
    obtain ⟨n, s1⟩ := p
    simp only [hx] at h
    obtain rfl := Option.some.inj h
    have h1 := (signed_room hx).2
    have h2 := keep_room n s1
    show droom (rKeep n s1) ≤ _
    omega
theorem nar_short : Nar rShort := nar_num 2 (by decide)
theorem nar_long : Nar rLong := nar_num 4 (by decide)
theorem dbyte_room {s s' : RS} (h : rByte s = some s') : droom s' ≤ droom s ∧ s'.S.length < s.S.length := by
  obtain ⟨c, e1, e2, e3, _⟩ := byte_out h
  unfold droom
  rw [e1, e2, e3, List.length_append, List.length_singleton, List.length_cons]
  omega
theorem dtext_room {s s' : RS} (h : rText s = some s') : droom s' ≤ droom s ∧ s'.S.length < s.S.length := by
  obtain ⟨t, e1, _, e3, e4⟩ := text_out h
  unfold droom
  rw [e1, e3, e4, List.length_append, List.length_append, List.length_append, List.length_singleton, List.length_singleton]
  omega
theorem nar_text : Nar rText := fun _ _ h => (dtext_room h).1
theorem ditem_room {s s' : RS} (h : rItem s = some s') : droom s' ≤ droom s ∧ s'.S.length < s.S.length := by
  unfold rItem at h
  cases hx : rByte s with
  | none => rw [hx] at h; cases h
  | some s1 =>
    rw [hx] at h
    have h1 := dbyte_room hx
    have h2 := dtext_room h
    omega
theorem draw_room {n : Int} {s s' : RS} (h : rRaw n s = some s') : droom s' ≤ droom s + 1 := by
  unfold rRaw at h
  cases hx : rTake n.toNat s with
  | none => rw [hx] at h; cases h
  | some p =>
    obtain ⟨b, s1⟩ := p
    rw [hx] at h
    obtain rfl := Option.some.inj h
    have h1 := (dtake_room hx).2
    unfold droom at h1 ⊢
    show s1.S.length + ((s1.T ++ [b]).length + s1.N.length) ≤ _
    rw [List.length_append, List.length_singleton]; omega
theorem nar_value : Nar rValue := by
  intro s s' h
  unfold rValue at h
  cases hx : rSigned 4 s with
  | none => rw [hx] at h; cases h
  | some p =>
    obtain ⟨n, s1⟩ := p
    rw [hx] at h
    simp only [Option.bind_some] at h
    have h1 := (signed_room hx).2
    have h2 := keep_room n s1
    split at h
    · split at h
      · obtain rfl := Option.some.inj h; omega
      · have := draw_room h; omega
    · cases h
theorem nar_name : Nar rName := by
  intro s s' h
  unfold rName at h
  cases hx : rText s with
  | none => rw [hx] at h; cases h
  | some s1 =>
    rw [hx] at h
    replace h : rTail s1 = some s' := h
    unfold rTail at h
    cases hy : rTake 18 s1 with
    | none => rw [hy] at h; cases h
    | some p =>
      obtain ⟨b, s2⟩ := p
      rw [hy] at h
      simp only [Option.bind_some] at h
      split at h
      · obtain rfl := Option.some.inj h
        have h1 := (dtext_room hx).1
        have h2 := (dtake_room hy).2
        omega
      · cases h
theorem nar_rep {f : RS → Option RS} (hf : Nar f) : ∀ n, Nar (rRep n f)
  | 0 => fun s s' h => by obtain rfl := Option.some.inj h; exact Nat.le_refl _
  | n + 1 => fun s s' h => by
    rw [rRep] at h
    cases hx : f s with
    | none => rw [hx] at h; cases h
    | some s1 => rw [hx] at h; exact Nat.le_trans (nar_rep hf n s1 s' h) (hf s s1 hx)
theorem nar_counted {f : RS → Option RS} (hf : Nar f) : Nar (rCounted f) := by
  intro s s' h
  unfold rCounted at h
  cases hx : rSigned 2 s with
  | none => rw [hx] at h; cases h
  | some p =>
    obtain ⟨n, s1⟩ := p
    rw [hx] at h
    simp only [Option.bind_some] at h
    split at h
    · have h1 := (signed_room hx).2
      have h2 := keep_room n s1
      have h3 := nar_rep hf _ _ _ h
      omega
    · cases h

/-! ### rows, step by step -/
def rowN (f : RS → Option RS) (s : RS) : Option (Nat × RS) := rRow f s.S.length s
theorem row_fuel {f : RS → Option RS} (hf : ∀ s s', f s = some s' → s'.S.length < s.S.length) : ∀ (k : Nat) (s : RS), s.S.length ≤ k → rRow f k s = rRow f s.S.length s := by
  intro k
  induction k using Nat.strongRecOn with
  | _ k ih =>
    intro s h
    cases k with
    | zero => rw [show s.S.length = 0 by omega]
    | succ k =>
      cases hS : s.S with
      | nil => rw [rRow, hS]; rfl
      | cons b r =>
        rw [List.length_cons, rRow, rRow, hS]
        simp only
        split
        · rfl
        · cases hx : f s with
          | none => rfl
          | some s1 =>
            have h1 := hf s s1 hx
            rw [hS, List.length_cons] at h1 h
            simp only [Option.bind_some]
            rw [ih k (by omega) s1 (by omega), ih r.length (by omega) s1 (by omega)]
theorem rowN_nil {f : RS → Option RS} {s : RS} (h : s.S = []) : rowN f s = none := by
  unfold rowN; rw [h]; rfl
theorem rowN_end {f : RS → Option RS} {s : RS} {r : Bs} (h : s.S = 0 :: r) : rowN f s = some (0, { s with S := r }) := by
  unfold rowN; rw [h, List.length_cons, rRow, h]; rfl
theorem rowN_next {f : RS → Option RS} (hf : ∀ s s', f s = some s' → s'.S.length < s.S.length) {s : RS} {b : UInt8} {r : Bs} (h : s.S = b :: r) (hb : b ≠ 0) : rowN f s = (f s).bind fun s1 => (rowN f s1).map fun p => (p.1 + 1, p.2) := by
  unfold rowN
  rw [h, List.length_cons, rRow, h]
  simp only
  rw [if_neg hb]
  cases hx : f s with
  | none => rfl
  | some s1 =>
    have h1 := hf s s1 hx
    rw [h, List.length_cons] at h1
    simp only [Option.bind_some]
    rw [row_fuel hf r.length s1 (by omega)]
theorem nar_row {f : RS → Option RS} (hf : Nar f) : ∀ (k : Nat) (s : RS) (m : Nat) (s' : RS), rRow f k s = some (m, s') → droom s' + 1 ≤ droom s := by
  intro k
  induction k with
  | zero => intro s m s' h; cases h
  | succ k ih =>
    intro s m s' h
    rw [rRow] at h
    cases hS : s.S with
    | nil => rw [hS] at h; cases h
    | cons b r =>
      rw [hS] at h
      simp only at h
      split at h
      · simp only [Option.some.injEq, Prod.mk.injEq] at h
        obtain ⟨_, rfl⟩ := h
        unfold droom
        rw [hS, List.length_cons]; show r.length + (s.T.length + s.N.length) + 1 ≤ _; omega
      · cases hx : f s with
        | none => rw [hx] at h; cases h
        | some s1 =>
          rw [hx] at h
          cases hy : rRow f k s1 with
          | none => simp only [Option.bind_some, hy] at h; cases h
          | some p =>
            obtain ⟨m1, s2⟩ := p
            simp only [Option.bind_some, hy, Option.map_some, Option.some.injEq, Prod.mk.injEq] at h
            obtain ⟨_, rfl⟩ := h
            have h1 := ih s1 m1 s2 hy
            have h2 := hf s s1 hx
            omega
theorem nar_pairs : Nar rPairs := by
  intro s s' h
  unfold rPairs at h
  cases hx : rRow rText s.S.length s with
  | none => rw [hx] at h; cases h
  | some p =>
    obtain ⟨m, s1⟩ := p
    rw [hx] at h
    simp only [Option.bind_some] at h
    split at h
    · obtain rfl := Option.some.inj h
      have h1 := nar_row nar_text _ _ _ _ hx
      have h2 := keep_room m s1
      omega
    · cases h
theorem nar_fields : Nar rFields := by
  intro s s' h
  unfold rFields at h
  cases hx : rRow rItem s.S.length (rKeep 0 s) with
  | none => rw [hx] at h; cases h
  | some p =>
    obtain ⟨m, s1⟩ := p
    rw [hx] at h
    obtain rfl := Option.some.inj h
    have h1 := nar_row (fun _ _ h => (ditem_room h).1) _ _ _ _ hx
    have h2 := keep_room 0 s
    have h3 : droom { s1 with N := s1.N.set s.N.length (m : Int) } = droom s1 := by unfold droom; simp
    show droom { s1 with N := s1.N.set s.N.length (m : Int) } ≤ _
    omega
theorem nar_field (c : UInt8) : Nar (rField c) := by
  intro s s' h
  unfold rField at h
  split at h
  · exact nar_text _ _ h
  split at h
  · exact (dbyte_room h).1
  split at h
  · exact nar_long _ _ h
  split at h
  · exact nar_pairs _ _ h
  split at h
  · exact nar_fields _ _ h
  split at h
  · exact nar_counted nar_short _ _ h
  split at h
  · exact nar_counted nar_long _ _ h
  split at h
  · exact nar_counted nar_value _ _ h
  split at h
  · exact nar_counted nar_name _ _ h
  · obtain rfl := Option.some.inj h; exact Nat.le_refl _

theorem rrep_add (f : RS → Option RS) : ∀ (a b : Nat) (s : RS), rRep (a + b) f s = (rRep a f s).bind (rRep b f) := by
  intro a
  induction a with
  | zero => intro b s; rw [Nat.zero_add]; rfl
  | succ a ih =>
    intro b s
    rw [Nat.succ_add, rRep, rRep]
    cases f s with
    | none => rfl
    | some s1 => exact ih b s1
theorem rrep_fail {f : RS → Option RS} {j n : Nat} {s s' : RS} (h : rRep j f s = some s') (hf : f s' = none) (hj : j < n) : rRep n f s = none := by
  rw [show n = j + ((n - j - 1) + 1) by omega, rrep_add, h]
  show rRep ((n - j - 1) + 1) f s' = none
  rw [rRep, hf]; rfl
theorem rrep_next {f : RS → Option RS} {j : Nat} {s s' s2 : RS} (h : rRep j f s = some s') (hf : f s' = some s2) : rRep (j + 1) f s = some s2 := by
  rw [rrep_add, h]
  show rRep 1 f s' = some s2
  rw [rRep, hf]; rfl
end Go.Proofs.YtmofnkinclckoaaGreatDoor

namespace Go.Proofs.YtmofnkinclckoaaGreatDoor
open Go.RowKit Go.Lib Go.WideShapes

/-- What the look for an end leaves. -/
def LastOut (w0 : World) (s : RS) (e : Ending) (w' : World) : Prop :=
  (∃ r, s.S = 0 :: r ∧ e = .returned (.bool true) ∧ IsD w0 w' { s with S := r }) ∨ (∃ b r, s.S = b :: r ∧ b ≠ 0 ∧ e = .returned (.bool false) ∧ IsD w0 w' s) ∨ (s.S = [] ∧ Lost w0 e w')

set_option maxRecDepth 100000 in
set_option maxHeartbeats 4000000 in
theorem last_any (w0 w : World) (s : RS) (hl : s.S.length ≤ 1000000) (h : IsD w0 w s) :
    Calls Tryz.prog 76 #[.pointer (some ⟨w0.heap.size, 0, none⟩)] w (LastOut w0 s) := by
  obtain ⟨tv, nv, hW⟩ := h
  have c0 := hW.c0
  have HW := Lib.hid hW
  clear hW
  obtain ⟨S, T, N⟩ := s
  cases S with
  | nil =>
    replace c0 : w.cell? ⟨w0.heap.size, 0, none⟩ = some (.string { data := #[] }) := c0
    go_enter Tryz.func76, Tryz.ntmps76
    go_wp2_with fail
    refine (demand_no _).mono ?_; rintro e w1 ⟨rfl, rfl⟩
    go_wp2_with fail
    exact ⟨rfl, .inr (.inr ⟨rfl, rfl, HW.out.below⟩)⟩
  | cons b r =>
    obtain ⟨sb, hsb⟩ : ∃ sb : ByteArray, sb = ⟨(b :: r).toArray⟩ := ⟨_, rfl⟩
    have hsz : sb.size = r.length + 1 := by rw [hsb, bsize]; rfl
    have h0 : 0 < sb.size := by omega
    have h0' : (0 : Int) < sb.size := by omega
    have hb0 : sb[0] = b := by subst hsb; rfl
    have hne : (sb.toList == ([] : List UInt8)) = false := by
      rw [toList_eq, beq_eq_false_iff_ne]; intro e
      rw [hsb] at e; cases e
    replace c0 : w.cell? ⟨w0.heap.size, 0, none⟩ = some (.string sb) := by rw [hsb]; exact c0
    have HB0 := Lib.hid hb0
    have HTK := Lib.hid (fun W (hD : DAt w0 W ⟨b :: r, T, N⟩ tv nv) => take_is (n := 1) (b := [b]) (s1 := ⟨r, T, N⟩) (by unfold rTake; rw [if_pos (by show 1 ≤ (b :: r).length; simp)]; rfl) hl hD)
    clear hsb hsz hb0
    by_cases hb : b = 0
    · have hbb : ((sb[0].toNat : Int) != 0) = false := by rw [HB0.out, hb]; rfl
      have HBB := Lib.hid hb
      clear hb
      go_enter Tryz.func76, Tryz.ntmps76
      go_wp2_with fail
      refine (demand_ok _).mono ?_; rintro e w1 ⟨rfl, rfl⟩
      go_wp2_with fail
      refine (HTK.out _ HW.out).mono ?_; rintro e w2 ⟨rfl, hW2⟩
      have HW2 := Lib.hid hW2
      clear hW2
      go_wp2_with fail
      go_ret
      exact .inl ⟨r, by rw [HBB.out], rfl, _, _, HW2.out⟩
    · have hbb : ((sb[0].toNat : Int) != 0) = true := by
        rw [HB0.out, bne_iff_ne]; intro e
        exact hb (UInt8.toNat_inj.mp (by have : b.toNat = 0 := by omega
                                         exact this))
      have HBB := Lib.hid hb
      clear hb
      go_enter Tryz.func76, Tryz.ntmps76
      go_wp2_with fail
      refine (demand_ok _).mono ?_; rintro e w1 ⟨rfl, rfl⟩
      go_wp2_with fail
      go_ret
      exact .inr (.inl ⟨b, r, rfl, HBB.out, rfl, _, _, HW.out⟩)

theorem all_zero {b : Bs} (h : b.length = 18) : (∀ x ∈ b, x = 0) ↔ b = List.replicate 18 0 := by
  rw [List.eq_replicate_iff]
  exact ⟨fun hx => ⟨h, hx⟩, fun hx => hx.2⟩

set_option maxRecDepth 100000 in
set_option maxHeartbeats 4000000 in
theorem name_r (w0 w : World) (s : RS) (hl : droom s ≤ 900000) (h : IsD w0 w s) :
    Calls Tryz.prog 57 #[.pointer (some ⟨w0.heap.size, 0, none⟩)] w (DOut w0 (rName s)) := by
  have HT := Lib.hid (text_r w0 w s hl h)
  have HTR := Lib.hid (fun s' => dtext_room (s := s) (s' := s'))
  unfold rName
  generalize rText s = R at HT HTR ⊢
  clear h
  go_enter Tryz.func57, Tryz.ntmps57
  go_wp2_with fail
  refine HT.out.mono ?_; rintro e w1 (⟨s1, rfl, rfl, hI⟩ | ⟨rfl, rfl, hB⟩)
  · have hl1 : s1.S.length ≤ 1000000 := by have := (HTR.out s1 rfl).1; unfold droom at this hl; omega
    have HK := Lib.hid (take_anyM w0 w1 s1 18 hl1 hI)
    have HTO := Lib.hid (fun b s' => take_out (k := 18) (s := s1) (b := b) (s' := s'))
    obtain ⟨RT, hRT⟩ : ∃ RT, RT = rTail s1 := ⟨_, rfl⟩
    have HG := Lib.hid (show (some s1).bind rTail = RT from hRT.symm)
    unfold rTail at hRT
    generalize rTake 18 s1 = R1 at HK hRT HTO
    have HRT := Lib.hid hRT
    clear hI hRT HT
    go_wp2_with fail
    refine HK.out.mono ?_; rintro e w2 (⟨b, s2, rfl, rfl, hI⟩ | ⟨rfl, rfl, hB⟩)
    · have hbl := (HTO.out b s2 rfl).2.1
      have HI := Lib.hid hI
      have HA := Lib.hid (all_zero hbl)
      have HTM := Lib.hid (trim_any ⟨b.toArray⟩ w2 (by rw [bsize, hbl]; decide) (by rw [bsize, hbl]; decide))
      have HBB := Lib.hid (show bytes (⟨b.toArray⟩ : ByteArray) = b by simp [bytes])
      rw [HBB.out] at HTM
      clear hI hbl
      go_wp2_with fail
      refine HTM.out.mono ?_; rintro e w3 ⟨r, rfl, hr, hB3⟩
      have HB3 := Lib.hid hB3
      have HR := Lib.hid hr
      clear hB3 hr
      by_cases hz : r.size = 0
      · have he : (r.toList == ([] : List UInt8)) = true := by
          rw [toList_eq]
          have : bytes r = [] := List.length_eq_zero_iff.1 (by rw [blen]; exact hz)
          rw [show r.data.toList = [] from this]; rfl
        have HZ := Lib.hid (show RT = some s2 by rw [HRT.out]; simp only [Option.bind_some]; rw [if_pos (HA.out.1 (HR.out.1 hz))])
        clear hz
        go_wp2_with fail
        refine (demand_ok _).mono ?_; rintro e w4 ⟨rfl, rfl⟩
        go_wp2_with fail
        go_end0
        obtain ⟨tv, nv, hD⟩ := HI.out
        exact .inl ⟨s2, HG.out.trans HZ.out, rfl, tv, nv, hD.grow HB3.out⟩
      · have he : (r.toList == ([] : List UInt8)) = false := by
          rw [toList_eq, beq_eq_false_iff_ne]; intro e
          exact hz (by rw [← blen, show bytes r = [] from e]; rfl)
        have HZ := Lib.hid (show RT = none by rw [HRT.out]; simp only [Option.bind_some]; rw [if_neg (fun h => hz (HR.out.2 (HA.out.2 h)))])
        clear hz
        go_wp2_with fail
        refine (demand_no _).mono ?_; rintro e w4 ⟨rfl, rfl⟩
        go_wp2_with fail
        obtain ⟨tv, nv, hD⟩ := HI.out
        exact ⟨rfl, .inr ⟨HG.out.trans HZ.out, rfl, (hD.grow HB3.out).below⟩⟩
    · go_wp2_with fail
      exact ⟨rfl, .inr ⟨HG.out.trans HRT.out, rfl, hB⟩⟩
  · go_wp2_with fail
    exact ⟨rfl, .inr ⟨rfl, rfl, hB⟩⟩
end Go.Proofs.YtmofnkinclckoaaGreatDoor
