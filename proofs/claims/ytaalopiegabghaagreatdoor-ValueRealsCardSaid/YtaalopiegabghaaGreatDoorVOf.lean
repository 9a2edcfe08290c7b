/- Package value: a type as its kind, whether it is right, and a value's form: ints, reals, texts. -/
import Derived.Test.YtaalopiegabghaaGreatDoorVReals
import Derived.Test.YtaalopiegabghaaGreatDoorVIntR
namespace Go.Proofs.YtaalopiegabghaaGreatDoor
open Go.RowKit Go.Lib Go.WideShapes

def textF (s : Bs) : Option Bs := if s.contains 0 = true then none else some s
theorem ib_in : ∀ l : Bs, ((0 : UInt8) ∈ l → 0 ≤ Lib.indexByte l 0) ∧ ((0 : UInt8) ∉ l → Lib.indexByte l 0 = -1) := by
  intro l
  induction l with
  | nil => exact ⟨(fun h => by cases h), (fun _ => rfl)⟩
  | cons b l ih =>
    have e : Lib.indexByte (b :: l) 0 = if b == 0 then 0 else if Lib.indexByte l 0 == -1 then -1 else Lib.indexByte l 0 + 1 := rfl
    rw [e]
    by_cases hb : b = 0
    · subst hb
      exact ⟨(fun _ => Int.le_refl _), (fun h => absurd (List.mem_cons_self ..) h)⟩
    · have hb' : (b == 0) = false := by simpa using hb
      rw [hb', if_neg (by simp)]
      constructor
      · intro h
        have hl : (0 : UInt8) ∈ l := by
          rcases List.mem_cons.1 h with h | h
          · exact absurd h.symm hb
          · exact h
        have := ih.1 hl
        have hne : (Lib.indexByte l 0 == -1) = false := by simp; omega
        rw [hne, if_neg (by simp)]; omega
      · intro h
        rw [ih.2 (fun hl => h (List.mem_cons_of_mem _ hl))]; rfl
set_option maxHeartbeats 4000000 in
theorem textcanon_any (b : Bool) (s : ByteArray) (w : World) :
    Calls Tryz.prog 174 #[.agg #[.bool b], .string s] w (FormOut (textF (bytes s)) w) := by
  have HI := Lib.hid (fun W => Tryz.strings_IndexByte s 0 W)
  have HB0 := Lib.hid ((Below.refl w.heap.size w).alloc (Nat.le_refl _) (.cells #[.bool b] 55))
  have hi := ib_in (bytes s)
  have two : (bytes s).contains 0 = true ↔ (0 : UInt8) ∈ bytes s := by simp
  obtain ⟨R, hR⟩ : ∃ R : Option Bs, R = textF (bytes s) := ⟨_, rfl⟩
  rw [← hR]
  unfold textF at hR
  rw [show Lib.indexByte s.data.toList (Int.toNat 0).toUInt8 = Lib.indexByte (bytes s) 0 from rfl] at HI
  generalize Lib.indexByte (bytes s) 0 = i at HI hi
  by_cases h : (0 : UInt8) ∈ bytes s
  · have h0 := hi.1 h
    rw [if_pos (two.2 h)] at hR
    have HR := Lib.hid hR
    clear hi h two hR
    go_enter Tryz.func174, Tryz.ntmps174
    go_wp2_with fail
    refine (HI.out _).mono ?_; rintro e w1 ⟨rfl, rfl⟩
    go_wp2_with fail
    go_ret2
    exact ⟨by rw [HR.out]; rfl, HB0.out⟩
  · have h0 : i < 0 := by have := hi.2 h; omega
    rw [if_neg (mt two.1 h)] at hR
    have HR := Lib.hid hR
    clear hi h two hR
    go_enter Tryz.func174, Tryz.ntmps174
    go_wp2_with fail
    refine (HI.out _).mono ?_; rintro e w1 ⟨rfl, rfl⟩
    go_wp2_with fail
    go_ret2
    exact ⟨by rw [HR.out]; rfl, HB0.out⟩
/-- A type without names. -/
abbrev tyV (k : Int) (l m : ByteArray) : Value := .agg #[.int .u8 k, .string l, .string m, .slice none 0 0]
/-- The cells of a box of a type. -/
def Box4 (gb : Nat) (k : Int) (l m : ByteArray) (w : World) : Prop := w.cell? ⟨gb, 0, none⟩ = some (.int .u8 k) ∧ w.cell? ⟨gb, 1, none⟩ = some (.string l) ∧ w.cell? ⟨gb, 2, none⟩ = some (.string m) ∧ w.cell? ⟨gb, 3, none⟩ = some (.slice none 0 0) ∧ gb < w.heap.size
theorem Box4.new (k : Int) (l m : ByteArray) (w : World) (t : TypeId) : Box4 w.heap.size k l m (w.alloc (.cells #[.int .u8 k, .string l, .string m, .slice none 0 0] t)) := by
  refine ⟨?_, ?_, ?_, ?_, by rw [World.size_alloc]; omega⟩ <;> (rw [World.cell?_alloc_new]; rfl)
theorem Box4.step {gb : Nat} {k : Int} {l m : ByteArray} {w w' : World} (h : Box4 gb k l m w) (hb : Below w.heap.size w w') : Box4 gb k l m w' :=
  ⟨(hb.cell (p := ⟨gb, 0, none⟩) h.2.2.2.2).trans h.1, (hb.cell (p := ⟨gb, 1, none⟩) h.2.2.2.2).trans h.2.1, (hb.cell (p := ⟨gb, 2, none⟩) h.2.2.2.2).trans h.2.2.1, (hb.cell (p := ⟨gb, 3, none⟩) h.2.2.2.2).trans h.2.2.2.1, Nat.lt_of_lt_of_le h.2.2.2.2 hb.size⟩
/-- What value.Canon gives: R: the type is right; F: the form; n: the value's length. -/
def cnS (R : Bool) (F : Option Bs) (n : Nat) : Bs := if R = true ∧ n ≤ 60 then F.getD [] else []
def cnE (R : Bool) (F : Option Bs) (n : Nat) : Int := if R = true then (if n ≤ 60 ∧ F.isSome = true then 0 else 9) else 1
def CanonOut (R : Bool) (F : Option Bs) (n : Nat) (w : World) (e : Ending) (w' : World) : Prop := e = .returned (.tuple #[.string ⟨(cnS R F n).toArray⟩, .int .i64 (cnE R F n)]) ∧ Below w.heap.size w w'

set_option maxRecDepth 100000 in
set_option maxHeartbeats 8000000 in
theorem of_real (l m : ByteArray) ( w : World) :
    Calls Tryz.prog 12 #[tyV 114 l m] w fun e w' => e = .returned (.iface 52 (.agg #[.string l, .string m, .bool true])) ∧ Below w.heap.size w w' := by
  go_enter Tryz.func12, Tryz.ntmps12
  go_wp2_with fail
  all_goals
    go_ret
    exact ⟨rfl, (Below.refl _ _).alloc (Nat.le_refl _) _⟩
set_option maxRecDepth 100000 in
set_option maxHeartbeats 8000000 in
theorem vright_real (l m : ByteArray) (w : World) (hT : Tabs w) (hw : 1 ≤ w.heap.size) (hl : l.size ≤ 1000000) (hm : m.size ≤ 1000000) :
    Calls Tryz.prog 10 #[tyV 114 l m] w fun e w' => e = .returned (.bool (realR (bytes l) (bytes m))) ∧ Below w.heap.size w w' := by
  have HR := Lib.hid (fun W hT hw => realright_any l m true W hT hw hl hm)
  have HO := Lib.hid (fun W => of_real l m W)
  have HT := Lib.hid hT
  clear hT hl hm
  generalize (realR (bytes l) (bytes m)) = R at HR ⊢
  go_enter Tryz.func10, Tryz.ntmps10
  go_upto_region 1 with (fail)
  obtain ⟨W1, hW1⟩ : ∃ W1, W1 = w.alloc (.cells #[.int .u8 114, .string l, .string m, .slice none 0 0] 26) := ⟨_, rfl⟩
  have HBX := Lib.hid (show Box4 w.heap.size 114 l m W1 by rw [hW1]; exact Box4.new 114 l m w _)
  have H1 := Lib.hid (show Below w.heap.size w W1 by rw [hW1]; exact (Below.refl _ _).alloc (Nat.le_refl _) _)
  first | rw [← hW1] | (unfold tyV at *; rw [← hW1])
  clear hW1
  obtain ⟨gb, hgb⟩ : ∃ gb, gb = w.heap.size := ⟨_, rfl⟩
  rw [← hgb] at HBX ⊢
  clear hgb
  obtain ⟨d0, d1, d2, d3, hlt⟩ := HBX.out
  go_wp2_with fail
  refine (HO.out _).mono ?_; rintro e w2 ⟨rfl, hb⟩
  have H2 := Lib.hid (H1.out.on hb)
  clear hb d0 d1 d2 d3 hlt
  go_wp2_with fail
  refine (HR.out _ (HT.out.step H2.out) (Nat.le_trans hw H2.out.size)).mono ?_; rintro e w3 ⟨rfl, hb⟩
  have H3 := Lib.hid (H2.out.on hb)
  clear hb
  go_wp2_with fail
  go_ret
  exact ⟨rfl, H3.out⟩
set_option maxRecDepth 100000 in
set_option maxHeartbeats 8000000 in
theorem vcanon_real (l m : ByteArray) (s : ByteArray) (w : World) (hT : Tabs w) (hw : 1 ≤ w.heap.size) (hl : l.size ≤ 1000000) (hm : m.size ≤ 1000000) (hs : s.size ≤ 1000000) :
    Calls Tryz.prog 7 #[tyV 114 l m, .string s] w (CanonOut (realR (bytes l) (bytes m)) (realF (bytes l) (bytes m) (bytes s)) s.size w) := by
  have HR := Lib.hid (fun W (hT : Tabs W) hw => vright_real l m W hT hw hl hm)
  have HC := Lib.hid (fun W hT hw => realcanon_any l m s true W hT hw hl hm hs)
  have HO := Lib.hid (fun W => of_real l m W)
  have HT := Lib.hid hT
  clear hT hl hm
  generalize (realR (bytes l) (bytes m)) = R at HR ⊢
  generalize (realF (bytes l) (bytes m) (bytes s)) = F at HC ⊢
  obtain ⟨X, hX⟩ : ∃ X : ByteArray, X = ⟨(F.getD []).toArray⟩ := ⟨_, rfl⟩
  have HX := Lib.hid hX
  unfold FormOut at HC
  rw [← hX] at HC
  clear hX
  obtain ⟨q, hq⟩ : ∃ q, q = F.isSome := ⟨_, rfl⟩
  have HQ := Lib.hid hq
  rw [← hq] at HC
  clear hq
  
  go_enter Tryz.func7, Tryz.ntmps7
  go_upto_region 1 with (fail)
  obtain ⟨W1, hW1⟩ : ∃ W1, W1 = w.alloc (.cells #[.int .u8 114, .string l, .string m, .slice none 0 0] 26) := ⟨_, rfl⟩
  have HBX := Lib.hid (show Box4 w.heap.size 114 l m W1 by rw [hW1]; exact Box4.new 114 l m w _)
  have H1 := Lib.hid (show Below w.heap.size w W1 by rw [hW1]; exact (Below.refl _ _).alloc (Nat.le_refl _) _)
  first | rw [← hW1] | (unfold tyV at *; rw [← hW1])
  clear hW1
  obtain ⟨gb, hgb⟩ : ∃ gb, gb = w.heap.size := ⟨_, rfl⟩
  rw [← hgb] at HBX ⊢
  clear hgb
  obtain ⟨d0, d1, d2, d3, hlt⟩ := HBX.out
  go_wp2_with fail
  refine (HR.out _ (HT.out.step H1.out) (Nat.le_trans hw H1.out.size)).mono ?_; rintro e w2 ⟨rfl, hb⟩
  have HBX2 := Lib.hid (HBX.out.step hb)
  have H2 := Lib.hid (H1.out.on hb)
  clear hb d0 d1 d2 d3 hlt
  obtain ⟨d0, d1, d2, d3, hlt⟩ := HBX2.out
  cases R with
  | false =>
    clear d0 d1 d2 d3 hlt
    go_wp2_with fail
    go_ret2
    exact ⟨by unfold cnS cnE; rw [if_neg (fun h => absurd h.1 (by decide)), if_neg (by decide)]; rfl, H2.out⟩
  | true =>
  skip
  by_cases hn : s.size ≤ 60
  · have hn' : (s.size : Int) ≤ 60 := by omega
    have HN := Lib.hid hn
    clear hn
    go_wp2_with fail
    refine (HO.out _).mono ?_; rintro e w3 ⟨rfl, hb⟩
    have H3 := Lib.hid (H2.out.on hb)
    clear hb d0 d1 d2 d3 hlt
    go_wp2_with fail
    refine (HC.out _ (HT.out.step H3.out) (Nat.le_trans hw H3.out.size)).mono ?_; rintro e w4 ⟨rfl, hb⟩
    have H4 := Lib.hid (H3.out.on hb)
    clear hb
    cases q with
    | false =>
      go_wp2_with fail
      go_ret2
      have hF : F = none := by
        cases F with
        | none => rfl
        | some v => exact absurd HQ.out (by simp)
      exact ⟨by unfold cnS cnE; rw [if_pos ⟨rfl, HN.out⟩, if_pos rfl, hF, if_neg (by simp)]; rfl, H4.out⟩
    | true =>
      go_wp2_with fail
      go_ret2
      exact ⟨by unfold cnS cnE; rw [if_pos ⟨rfl, HN.out⟩, if_pos rfl, if_pos ⟨HN.out, HQ.out.symm⟩, HX.out]; rfl, H4.out⟩
  · have hn' : 60 < (s.size : Int) := by omega
    have HN := Lib.hid hn
    clear hn d0 d1 d2 d3 hlt
    go_wp2_with fail
    go_ret2
    exact ⟨by unfold cnS cnE; rw [if_neg (fun h => HN.out h.2), if_pos rfl, if_neg (fun h => HN.out h.1)]; rfl, H2.out⟩
set_option maxRecDepth 100000 in
set_option maxHeartbeats 8000000 in
theorem of_int (l m : ByteArray) ( w : World) :
    Calls Tryz.prog 12 #[tyV 105 l m] w fun e w' => e = .returned (.iface 51 (.agg #[.string l, .string m, .bool true])) ∧ Below w.heap.size w w' := by
  go_enter Tryz.func12, Tryz.ntmps12
  go_wp2_with fail
  all_goals
    go_ret
    exact ⟨rfl, (Below.refl _ _).alloc (Nat.le_refl _) _⟩
set_option maxRecDepth 100000 in
set_option maxHeartbeats 8000000 in
theorem vright_int (l m : ByteArray) (a b : Int) (w : World) (hT : Tabs w) (hw : 1 ≤ w.heap.size) (hl : l.size ≤ 1000000) (hm : m.size ≤ 1000000) (ha : -1000000000 < a ∧ a < 1000000000) (hb : -1000000000 < b ∧ b < 1000000000) (fa : bytes l = itoa a) (fb : bytes m = itoa b) (hab : a ≤ b) :
    Calls Tryz.prog 10 #[tyV 105 l m] w fun e w' => e = .returned (.bool (true)) ∧ Below w.heap.size w w' := by
  have HR := Lib.hid (fun W hT (_ : 1 ≤ W.heap.size) => intright_own l m a b W hT hl hm ha hb fa fb hab)
  have HO := Lib.hid (fun W => of_int l m W)
  have HT := Lib.hid hT
  clear hT hl hm ha hb fa fb hab
  skip
  go_enter Tryz.func10, Tryz.ntmps10
  go_upto_region 1 with (fail)
  obtain ⟨W1, hW1⟩ : ∃ W1, W1 = w.alloc (.cells #[.int .u8 105, .string l, .string m, .slice none 0 0] 26) := ⟨_, rfl⟩
  have HBX := Lib.hid (show Box4 w.heap.size 105 l m W1 by rw [hW1]; exact Box4.new 105 l m w _)
  have H1 := Lib.hid (show Below w.heap.size w W1 by rw [hW1]; exact (Below.refl _ _).alloc (Nat.le_refl _) _)
  first | rw [← hW1] | (unfold tyV at *; rw [← hW1])
  clear hW1
  obtain ⟨gb, hgb⟩ : ∃ gb, gb = w.heap.size := ⟨_, rfl⟩
  rw [← hgb] at HBX ⊢
  clear hgb
  obtain ⟨d0, d1, d2, d3, hlt⟩ := HBX.out
  go_wp2_with fail
  refine (HO.out _).mono ?_; rintro e w2 ⟨rfl, hb⟩
  have H2 := Lib.hid (H1.out.on hb)
  clear hb d0 d1 d2 d3 hlt
  go_wp2_with fail
  refine (HR.out _ (HT.out.step H2.out) (Nat.le_trans hw H2.out.size)).mono ?_; rintro e w3 ⟨rfl, hb⟩
  have H3 := Lib.hid (H2.out.on hb)
  clear hb
  go_wp2_with fail
  go_ret
  exact ⟨rfl, H3.out⟩
set_option maxRecDepth 100000 in
set_option maxHeartbeats 8000000 in
theorem vcanon_int (l m : ByteArray) (a b : Int) (s : ByteArray) (w : World) (hT : Tabs w) (hw : 1 ≤ w.heap.size) (hl : l.size ≤ 1000000) (hm : m.size ≤ 1000000) (ha : -1000000000 < a ∧ a < 1000000000) (hb : -1000000000 < b ∧ b < 1000000000) (fa : bytes l = itoa a) (fb : bytes m = itoa b) (hab : a ≤ b) (hs : s.size ≤ 1000000) :
    Calls Tryz.prog 7 #[tyV 105 l m, .string s] w (CanonOut (true) (intF (bytes l) (bytes m) (bytes s)) s.size w) := by
  have HR := Lib.hid (fun W (hT : Tabs W) hw => vright_int l m a b W hT hw hl hm ha hb fa fb hab)
  have HC := Lib.hid (fun W hT (_ : 1 ≤ W.heap.size) => intcanon_any l m s true a b W hT hl hm hs (by rw [fa]; exact intB_itoa ha) (by rw [fb]; exact intB_itoa hb))
  have HO := Lib.hid (fun W => of_int l m W)
  have HT := Lib.hid hT
  clear hT hl hm ha hb fa fb hab
  skip
  generalize (intF (bytes l) (bytes m) (bytes s)) = F at HC ⊢
  obtain ⟨X, hX⟩ : ∃ X : ByteArray, X = ⟨(F.getD []).toArray⟩ := ⟨_, rfl⟩
  have HX := Lib.hid hX
  unfold FormOut at HC
  rw [← hX] at HC
  clear hX
  obtain ⟨q, hq⟩ : ∃ q, q = F.isSome := ⟨_, rfl⟩
  have HQ := Lib.hid hq
  rw [← hq] at HC
  clear hq
  
  go_enter Tryz.func7, Tryz.ntmps7
  go_upto_region 1 with (fail)
  obtain ⟨W1, hW1⟩ : ∃ W1, W1 = w.alloc (.cells #[.int .u8 105, .string l, .string m, .slice none 0 0] 26) := ⟨_, rfl⟩
  have HBX := Lib.hid (show Box4 w.heap.size 105 l m W1 by rw [hW1]; exact Box4.new 105 l m w _)
  have H1 := Lib.hid (show Below w.heap.size w W1 by rw [hW1]; exact (Below.refl _ _).alloc (Nat.le_refl _) _)
  first | rw [← hW1] | (unfold tyV at *; rw [← hW1])
  clear hW1
  obtain ⟨gb, hgb⟩ : ∃ gb, gb = w.heap.size := ⟨_, rfl⟩
  rw [← hgb] at HBX ⊢
  clear hgb
  obtain ⟨d0, d1, d2, d3, hlt⟩ := HBX.out
  go_wp2_with fail
  refine (HR.out _ (HT.out.step H1.out) (Nat.le_trans hw H1.out.size)).mono ?_; rintro e w2 ⟨rfl, hb⟩
  have HBX2 := Lib.hid (HBX.out.step hb)
  have H2 := Lib.hid (H1.out.on hb)
  clear hb d0 d1 d2 d3 hlt
  obtain ⟨d0, d1, d2, d3, hlt⟩ := HBX2.out
  skip
  by_cases hn : s.size ≤ 60
  · have hn' : (s.size : Int) ≤ 60 := by omega
    have HN := Lib.hid hn
    clear hn
    go_wp2_with fail
    refine (HO.out _).mono ?_; rintro e w3 ⟨rfl, hb⟩
    have H3 := Lib.hid (H2.out.on hb)
    clear hb d0 d1 d2 d3 hlt
    go_wp2_with fail
    refine (HC.out _ (HT.out.step H3.out) (Nat.le_trans hw H3.out.size)).mono ?_; rintro e w4 ⟨rfl, hb⟩
    have H4 := Lib.hid (H3.out.on hb)
    clear hb
    cases q with
    | false =>
      go_wp2_with fail
      go_ret2
      have hF : F = none := by
        cases F with
        | none => rfl
        | some v => exact absurd HQ.out (by simp)
      exact ⟨by unfold cnS cnE; rw [if_pos ⟨rfl, HN.out⟩, if_pos rfl, hF, if_neg (by simp)]; rfl, H4.out⟩
    | true =>
      go_wp2_with fail
      go_ret2
      exact ⟨by unfold cnS cnE; rw [if_pos ⟨rfl, HN.out⟩, if_pos rfl, if_pos ⟨HN.out, HQ.out.symm⟩, HX.out]; rfl, H4.out⟩
  · have hn' : 60 < (s.size : Int) := by omega
    have HN := Lib.hid hn
    clear hn d0 d1 d2 d3 hlt
    go_wp2_with fail
    go_ret2
    exact ⟨by unfold cnS cnE; rw [if_neg (fun h => HN.out h.2), if_pos rfl, if_neg (fun h => HN.out h.1)]; rfl, H2.out⟩
set_option maxRecDepth 100000 in
set_option maxHeartbeats 8000000 in
theorem of_text ( w : World) :
    Calls Tryz.prog 12 #[tyV 116 (⟨#[]⟩ : ByteArray) (⟨#[]⟩ : ByteArray)] w fun e w' => e = .returned (.iface 55 (.agg #[.bool true])) ∧ Below w.heap.size w w' := by
  go_enter Tryz.func12, Tryz.ntmps12
  go_wp2_with fail
  all_goals
    go_ret
    exact ⟨rfl, (Below.refl _ _).alloc (Nat.le_refl _) _⟩
set_option maxRecDepth 100000 in
set_option maxHeartbeats 8000000 in
theorem vright_text  (w : World) (hT : Tabs w) (hw : 1 ≤ w.heap.size) :
    Calls Tryz.prog 10 #[tyV 116 (⟨#[]⟩ : ByteArray) (⟨#[]⟩ : ByteArray)] w fun e w' => e = .returned (.bool (true)) ∧ Below w.heap.size w w' := by
  have HR := Lib.hid (fun W (_ : Tabs W) (_ : 1 ≤ W.heap.size) => textright_any true W)
  have HO := Lib.hid (fun W => of_text W)
  have HT := Lib.hid hT
  clear hT
  skip
  go_enter Tryz.func10, Tryz.ntmps10
  go_upto_region 1 with (fail)
  obtain ⟨W1, hW1⟩ : ∃ W1, W1 = w.alloc (.cells #[.int .u8 116, .string (⟨#[]⟩ : ByteArray), .string (⟨#[]⟩ : ByteArray), .slice none 0 0] 26) := ⟨_, rfl⟩
  have HBX := Lib.hid (show Box4 w.heap.size 116 (⟨#[]⟩ : ByteArray) (⟨#[]⟩ : ByteArray) W1 by rw [hW1]; exact Box4.new 116 (⟨#[]⟩ : ByteArray) (⟨#[]⟩ : ByteArray) w _)
  have H1 := Lib.hid (show Below w.heap.size w W1 by rw [hW1]; exact (Below.refl _ _).alloc (Nat.le_refl _) _)
  first | rw [← hW1] | (unfold tyV at *; rw [← hW1])
  clear hW1
  obtain ⟨gb, hgb⟩ : ∃ gb, gb = w.heap.size := ⟨_, rfl⟩
  rw [← hgb] at HBX ⊢
  clear hgb
  obtain ⟨d0, d1, d2, d3, hlt⟩ := HBX.out
  go_wp2_with fail
  refine (HO.out _).mono ?_; rintro e w2 ⟨rfl, hb⟩
  have H2 := Lib.hid (H1.out.on hb)
  clear hb d0 d1 d2 d3 hlt
  go_wp2_with fail
  refine (HR.out _ (HT.out.step H2.out) (Nat.le_trans hw H2.out.size)).mono ?_; rintro e w3 ⟨rfl, hb⟩
  have H3 := Lib.hid (H2.out.on hb)
  clear hb
  go_wp2_with fail
  go_ret
  exact ⟨rfl, H3.out⟩
set_option maxRecDepth 100000 in
set_option maxHeartbeats 8000000 in
theorem vcanon_text  (s : ByteArray) (w : World) (hT : Tabs w) (hw : 1 ≤ w.heap.size) (hs : s.size ≤ 1000000) :
    Calls Tryz.prog 7 #[tyV 116 (⟨#[]⟩ : ByteArray) (⟨#[]⟩ : ByteArray), .string s] w (CanonOut (true) (textF (bytes s)) s.size w) := by
  have HR := Lib.hid (fun W (hT : Tabs W) hw => vright_text W hT hw)
  have HC := Lib.hid (fun W (_ : Tabs W) (_ : 1 ≤ W.heap.size) => textcanon_any true s W)
  have HO := Lib.hid (fun W => of_text W)
  have HT := Lib.hid hT
  clear hT
  skip
  generalize (textF (bytes s)) = F at HC ⊢
  obtain ⟨X, hX⟩ : ∃ X : ByteArray, X = ⟨(F.getD []).toArray⟩ := ⟨_, rfl⟩
  have HX := Lib.hid hX
  unfold FormOut at HC
  rw [← hX] at HC
  clear hX
  obtain ⟨q, hq⟩ : ∃ q, q = F.isSome := ⟨_, rfl⟩
  have HQ := Lib.hid hq
  rw [← hq] at HC
  clear hq
  
  go_enter Tryz.func7, Tryz.ntmps7
  go_upto_region 1 with (fail)
  obtain ⟨W1, hW1⟩ : ∃ W1, W1 = w.alloc (.cells #[.int .u8 116, .string (⟨#[]⟩ : ByteArray), .string (⟨#[]⟩ : ByteArray), .slice none 0 0] 26) := ⟨_, rfl⟩
  have HBX := Lib.hid (show Box4 w.heap.size 116 (⟨#[]⟩ : ByteArray) (⟨#[]⟩ : ByteArray) W1 by rw [hW1]; exact Box4.new 116 (⟨#[]⟩ : ByteArray) (⟨#[]⟩ : ByteArray) w _)
  have H1 := Lib.hid (show Below w.heap.size w W1 by rw [hW1]; exact (Below.refl _ _).alloc (Nat.le_refl _) _)
  first | rw [← hW1] | (unfold tyV at *; rw [← hW1])
  clear hW1
  obtain ⟨gb, hgb⟩ : ∃ gb, gb = w.heap.size := ⟨_, rfl⟩
  rw [← hgb] at HBX ⊢
  clear hgb
  obtain ⟨d0, d1, d2, d3, hlt⟩ := HBX.out
  go_wp2_with fail
  refine (HR.out _ (HT.out.step H1.out) (Nat.le_trans hw H1.out.size)).mono ?_; rintro e w2 ⟨rfl, hb⟩
  have HBX2 := Lib.hid (HBX.out.step hb)
  have H2 := Lib.hid (H1.out.on hb)
  clear hb d0 d1 d2 d3 hlt
  obtain ⟨d0, d1, d2, d3, hlt⟩ := HBX2.out
  skip
  by_cases hn : s.size ≤ 60
  · have hn' : (s.size : Int) ≤ 60 := by omega
    have HN := Lib.hid hn
    clear hn
    go_wp2_with fail
    refine (HO.out _).mono ?_; rintro e w3 ⟨rfl, hb⟩
    have H3 := Lib.hid (H2.out.on hb)
    clear hb d0 d1 d2 d3 hlt
    go_wp2_with fail
    refine (HC.out _ (HT.out.step H3.out) (Nat.le_trans hw H3.out.size)).mono ?_; rintro e w4 ⟨rfl, hb⟩
    have H4 := Lib.hid (H3.out.on hb)
    clear hb
    cases q with
    | false =>
      go_wp2_with fail
      go_ret2
      have hF : F = none := by
        cases F with
        | none => rfl
        | some v => exact absurd HQ.out (by simp)
      exact ⟨by unfold cnS cnE; rw [if_pos ⟨rfl, HN.out⟩, if_pos rfl, hF, if_neg (by simp)]; rfl, H4.out⟩
    | true =>
      go_wp2_with fail
      go_ret2
      exact ⟨by unfold cnS cnE; rw [if_pos ⟨rfl, HN.out⟩, if_pos rfl, if_pos ⟨HN.out, HQ.out.symm⟩, HX.out]; rfl, H4.out⟩
  · have hn' : 60 < (s.size : Int) := by omega
    have HN := Lib.hid hn
    clear hn d0 d1 d2 d3 hlt
    go_wp2_with fail
    go_ret2
    exact ⟨by unfold cnS cnE; rw [if_neg (fun h => HN.out h.2), if_pos rfl, if_neg (fun h => HN.out h.1)]; rfl, H2.out⟩
end Go.Proofs.YtaalopiegabghaaGreatDoor
