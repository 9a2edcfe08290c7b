/- What a real with bounds takes is between them; with the widest bounds it takes all reals, and NaN just if it is the upper one: ValueReals answers true, whatever three texts it is called with, and leaves what was there as it was. (Over the listed tables of the library, tied to the program's text.) -/
import Derived.Test.YtaalopiegabghaaGreatDoorVLawM
import Derived.Test.YtaalopiegabghaaGreatDoorRCard
namespace Go.Proofs.YtaalopiegabghaaGreatDoor
open Go.RowKit Go.Lib Go.WideShapes Go.ChangeShapes Go.ChangeAt Go.Joins

/-- What calls answer. -/
def CnR (l m s x : ByteArray) (e : Int) : Prop := ∀ W : World, Tabs W → 1 ≤ W.heap.size → Calls Tryz.prog 7 #[tyV 114 l m, .string s] W fun r w' => r = .returned (.tuple #[.string x, .int .i64 e]) ∧ Below W.heap.size W w'
def FoR (s x : ByteArray) (e : Int) : Prop := ∀ W : World, Tabs W → 1 ≤ W.heap.size → Calls Tryz.prog 9 #[.string s] W fun r w' => r = .returned (.tuple #[.string x, .int .i64 e]) ∧ Below W.heap.size W w'
def RiR (l m : ByteArray) (R : Bool) : Prop := ∀ W : World, Tabs W → 1 ≤ W.heap.size → Calls Tryz.prog 10 #[tyV 114 l m] W fun r w' => r = .returned (.bool R) ∧ Below W.heap.size W w'
def CmR (l m : ByteArray) (c d : Int) : Prop := ∀ W : World, Tabs W → 1 ≤ W.heap.size → Calls Tryz.prog 8 #[.string l, .string m] W fun r w' => r = .returned (.tuple #[.int .i64 c, .int .i64 d]) ∧ Below W.heap.size W w'
def BeR (s l m : ByteArray) (q : Bool) (j : Int) : Prop := ∀ W : World, Tabs W → 1 ≤ W.heap.size → Calls Tryz.prog 11 #[.string s, .string l, .string m] W fun r w' => r = .returned (.tuple #[.bool q, .int .i64 j]) ∧ Below W.heap.size W w'
def WaysP (s x y z : ByteArray) (e f g : Int) : Prop :=
  ((e = 9 ∧ f = 9) ∧ g = 9) ∨ ((((e = 0 ∧ f = 9) ∧ g = 9) ∧ 60 < (s.size : Int)) ∨ (((((e = 0 ∧ f = 0) ∧ g = 9) ∧ (s.size : Int) ≤ 60) ∧ (x = (⟨#[78, 97, 78]⟩ : ByteArray) ∧ y = x)) ∨
  ((((e = 0 ∧ f = 0) ∧ g = 0) ∧ (s.size : Int) ≤ 60) ∧ ((y = x ∧ z = x) ∧ x ≠ (⟨#[78, 97, 78]⟩ : ByteArray)))))
def WaysQ (s : ByteArray) (h i c j k : Int) (R q : Bool) : Prop :=
  (h = 9 ∧ R = false) ∨ (((h = 0 ∧ i = 9) ∧ R = false) ∨ ((((h = 0 ∧ i = 0) ∧ R = false) ∧ 0 < c) ∨ ((((h = 0 ∧ i = 0) ∧ R = true) ∧ c ≤ 0) ∧
  ((((q = true ∧ j = 0) ∧ k = 0) ∧ (s.size : Int) ≤ 60) ∨ ((((q = true ∧ j = 0) ∧ k = 9) ∧ 60 < (s.size : Int)) ∨ ((((q = false ∧ j = 0) ∧ k = 9)) ∨ (((q = false ∧ j = 9) ∧ k = 9))))))))
set_option maxRecDepth 100000 in
set_option maxHeartbeats 64000000 in
theorem reals_run (w : World) (s a b x y z low high u : ByteArray) (e f g h i c d j k : Int) (R q : Bool) (hT : Tabs w) (hw : 1 ≤ w.heap.size) (zs : (s.size : Int) + a.size + b.size ≤ 1500)
    (hS : FoR s x e) (hY : CnR (⟨#[45, 73, 110, 102, 105, 110, 105, 116, 121]⟩ : ByteArray) (⟨#[78, 97, 78]⟩ : ByteArray) s y f) (hZ : CnR (⟨#[45, 73, 110, 102, 105, 110, 105, 116, 121]⟩ : ByteArray) (⟨#[73, 110, 102, 105, 110, 105, 116, 121]⟩ : ByteArray) s z g) (hA : FoR a low h) (hB : FoR b high i) (hO : CmR low high c d) (hR : RiR low high R) (hQ : BeR s low high q j) (hK : CnR low high s u k)
    (hp : WaysP s x y z e f g) (hq : WaysQ s h i c j k R q) :
    Calls Tryz.prog 4 #[.string s, .string a, .string b] w fun e w' => e = .returned (.bool true) ∧ Below w.heap.size w w' := by
  have HSH := Lib.hid (fun W hT hw => vshown_any W hT hw)
  have HT := Lib.hid hT
  have HS := Lib.hid hS; have HY := Lib.hid hY; have HZ := Lib.hid hZ; have HA := Lib.hid hA; have HB := Lib.hid hB; have HO := Lib.hid hO; have HR := Lib.hid hR; have HQ := Lib.hid hQ; have HK := Lib.hid hK
  have HP := Lib.hid hp; have HWQ := Lib.hid hq
  clear hT hS hY hZ hA hB hO hR hQ hK hp hq
  go_enter Tryz.func4, Tryz.ntmps4
  go_wp2_with fail
  refine (HSH.out _ HT.out hw).mono ?_; rintro r w1 ⟨rfl, hb⟩
  have H1 := Lib.hid hb
  clear hb HSH
  go_wp2_with fail
  obtain ⟨W2, hW2⟩ : ∃ W2, W2 = ((w1.alloc (.cells #[.int .u8 114, .string (⟨#[45, 73, 110, 102, 105, 110, 105, 116, 121]⟩ : ByteArray), .string (⟨#[78, 97, 78]⟩ : ByteArray), .slice none 0 0] 26)).alloc (.cells #[.int .u8 114, .string (⟨#[45, 73, 110, 102, 105, 110, 105, 116, 121]⟩ : ByteArray), .string (⟨#[73, 110, 102, 105, 110, 105, 116, 121]⟩ : ByteArray), .slice none 0 0] 26)) := ⟨_, rfl⟩
  have HB1 := Lib.hid (show Box4 w1.heap.size 114 (⟨#[45, 73, 110, 102, 105, 110, 105, 116, 121]⟩ : ByteArray) (⟨#[78, 97, 78]⟩ : ByteArray) W2 by rw [hW2]; exact (Box4.new 114 _ _ w1 _).step ((Below.refl _ _).alloc (Nat.le_refl _) _))
  have HB2 := Lib.hid (show Box4 (w1.heap.size + 1) 114 (⟨#[45, 73, 110, 102, 105, 110, 105, 116, 121]⟩ : ByteArray) (⟨#[73, 110, 102, 105, 110, 105, 116, 121]⟩ : ByteArray) W2 by rw [hW2]; have := Box4.new 114 (⟨#[45, 73, 110, 102, 105, 110, 105, 116, 121]⟩ : ByteArray) (⟨#[73, 110, 102, 105, 110, 105, 116, 121]⟩ : ByteArray) (w1.alloc (.cells #[.int .u8 114, .string (⟨#[45, 73, 110, 102, 105, 110, 105, 116, 121]⟩ : ByteArray), .string (⟨#[78, 97, 78]⟩ : ByteArray), .slice none 0 0] 26)) 26; rw [World.size_alloc] at this; exact this)
  have H2 := Lib.hid (show Below w.heap.size w W2 by rw [hW2]; exact (H1.out.alloc H1.out.size _).alloc (by rw [World.size_alloc]; have := H1.out.size; omega) _)
  rw [← hW2]
  clear hW2
  generalize w1.heap.size = gb at HB1 HB2 ⊢
  refine (HS.out _ (HT.out.step H2.out) (Nat.le_trans hw H2.out.size)).mono ?_; rintro r w3 ⟨rfl, hb⟩
  have HB13 := Lib.hid (HB1.out.step hb)
  have HB23 := Lib.hid (HB2.out.step hb)
  have H3 := Lib.hid (H2.out.on hb)
  clear hb HB1 HB2 HS
  obtain ⟨d0, d1, d2, d3, hlt⟩ := HB13.out
  go_wp2_with fail
  refine (HY.out _ (HT.out.step H3.out) (Nat.le_trans hw H3.out.size)).mono ?_; rintro r w4 ⟨rfl, hb⟩
  have HB24 := Lib.hid (HB23.out.step hb)
  have H4 := Lib.hid (H3.out.on hb)
  clear hb d0 d1 d2 d3 hlt HB13 HB23 HY
  obtain ⟨d0, d1, d2, d3, hlt⟩ := HB24.out
  go_wp2_with fail
  refine (HZ.out _ (HT.out.step H4.out) (Nat.le_trans hw H4.out.size)).mono ?_; rintro r w5 ⟨rfl, hb⟩
  have H5 := Lib.hid (H4.out.on hb)
  clear hb d0 d1 d2 d3 hlt HB24 HZ H1 H2 H3 H4
  unfold WaysP at HP
  unfold WaysQ at HWQ
  rcases HP.out with ⟨⟨rfl, rfl⟩, rfl⟩ | ⟨⟨⟨rfl, rfl⟩, rfl⟩, hn⟩ | ⟨⟨⟨⟨rfl, rfl⟩, rfl⟩, hn⟩, rfl, rfl⟩ | ⟨⟨⟨⟨rfl, rfl⟩, rfl⟩, hn⟩, ⟨rfl, rfl⟩, hx⟩
  all_goals
    clear HP
    try have hd60 : decide ((s.size : Int) ≤ 60) = false := decide_eq_false (by omega)
    try
      have hx' : (z.toList == [78, 97, 78]) = false := by
        rw [Lib.toList_data, beq_eq_false_iff_ne]
        intro h
        exact hx (str_eq h)
      clear hx
    go_wp2_with fail
    refine (HA.out _ (HT.out.step H5.out) (Nat.le_trans hw H5.out.size)).mono ?_; rintro r w6 ⟨rfl, hb⟩
    have H6 := Lib.hid (H5.out.on hb)
    clear hb H5
    go_wp2_with fail
    refine (HB.out _ (HT.out.step H6.out) (Nat.le_trans hw H6.out.size)).mono ?_; rintro r w7 ⟨rfl, hb⟩
    have H7 := Lib.hid (H6.out.on hb)
    clear hb H6
    go_wp2_with fail
    obtain ⟨W8, hW8⟩ : ∃ W8, W8 = w7.alloc (.cells #[.int .u8 114, .string low, .string high, .slice none 0 0] 26) := ⟨_, rfl⟩
    have HB1 := Lib.hid (show Box4 w7.heap.size 114 low high W8 by rw [hW8]; exact Box4.new 114 _ _ w7 _)
    have H8 := Lib.hid (show Below w.heap.size w W8 by rw [hW8]; exact H7.out.alloc H7.out.size _)
    rw [← hW8]
    clear hW8 H7
    generalize w7.heap.size = gc at HB1 ⊢
    refine (HO.out _ (HT.out.step H8.out) (Nat.le_trans hw H8.out.size)).mono ?_; rintro r w9 ⟨rfl, hb⟩
    have HB2 := Lib.hid (HB1.out.step hb)
    have H9 := Lib.hid (H8.out.on hb)
    clear hb H8 HB1
    obtain ⟨d0, d1, d2, d3, hlt⟩ := HB2.out
    rcases HWQ.out with ⟨rfl, rfl⟩ | ⟨⟨rfl, rfl⟩, rfl⟩ | ⟨⟨⟨rfl, rfl⟩, rfl⟩, hc⟩ | ⟨⟨⟨⟨rfl, rfl⟩, rfl⟩, hc⟩, hrest⟩
    iterate 3
      · clear HWQ
        go_wp2_with fail
        refine (HR.out _ (HT.out.step H9.out) (Nat.le_trans hw H9.out.size)).mono ?_; rintro r w10 ⟨rfl, hb⟩
        have H10 := Lib.hid (H9.out.on hb)
        clear hb
        go_wp2_with fail
        go_ret
        exact ⟨rfl, H10.out⟩
    · have HRE := Lib.hid hrest
      clear hrest HWQ
      go_wp2_with fail
      refine (HQ.out _ (HT.out.step H9.out) (Nat.le_trans hw H9.out.size)).mono ?_; rintro r w10 ⟨rfl, hb⟩
      have HB3 := Lib.hid (HB2.out.step hb)
      have H10 := Lib.hid (H9.out.on hb)
      clear hb d0 d1 d2 d3 hlt HB2
      obtain ⟨d0, d1, d2, d3, hlt⟩ := HB3.out
      go_wp2_with fail
      refine (HK.out _ (HT.out.step H10.out) (Nat.le_trans hw H10.out.size)).mono ?_; rintro r w11 ⟨rfl, hb⟩
      have HB4 := Lib.hid (HB3.out.step hb)
      have H11 := Lib.hid (H10.out.on hb)
      clear hb d0 d1 d2 d3 hlt HB3
      obtain ⟨d0, d1, d2, d3, hlt⟩ := HB4.out
      go_wp2_with fail
      refine (HR.out _ (HT.out.step H11.out) (Nat.le_trans hw H11.out.size)).mono ?_; rintro r w12 ⟨rfl, hb⟩
      have H12 := Lib.hid (H11.out.on hb)
      clear hb d0 d1 d2 d3 hlt
      rcases HRE.out with ⟨⟨⟨rfl, rfl⟩, rfl⟩, hk⟩ | ⟨⟨⟨rfl, rfl⟩, rfl⟩, hk⟩ | ⟨⟨rfl, rfl⟩, rfl⟩ | ⟨⟨rfl, rfl⟩, rfl⟩
      all_goals
        clear HRE
        first
          | (exfalso; omega)
          | (have hd61 : decide ((s.size : Int) ≤ 60) = false := decide_eq_false (by omega)
             go_wp2_with fail
             go_ret
             exact ⟨rfl, H12.out⟩)
          | (go_wp2_with fail
             go_ret
             exact ⟨rfl, H12.out⟩)

theorem key_low {n : Num} (h : n.ok) : 0 ≤ n.cmp (.inf true) := by
  unfold Num.cmp
  have : ¬ n.key < (Num.inf true).key := by
    show ¬ n.key < -1000000000000000
    cases n with
    | nan => show ¬ (2000000000000000 : Int) < _; omega
    | inf b => cases b with
      | true => show ¬ (-1000000000000000 : Int) < _; omega
      | false => show ¬ (1000000000000000 : Int) < _; omega
    | fin b X =>
      have hX : X < 1000000000000000 := h
      cases b with
      | true => show ¬ (-(X : Int)) < _; omega
      | false => show ¬ (X : Int) < _; omega
  rw [if_neg this]; split <;> omega
theorem key_high {n : Num} (h : n.ok) : n.cmp .nan ≤ 0 := by
  unfold Num.cmp
  have : ¬ (Num.nan).key < n.key := by
    show ¬ (2000000000000000 : Int) < n.key
    cases n with
    | nan => show ¬ _ < (2000000000000000 : Int); omega
    | inf b => cases b with
      | true => show ¬ _ < (-1000000000000000 : Int); omega
      | false => show ¬ _ < (1000000000000000 : Int); omega
    | fin b X =>
      have hX : X < 1000000000000000 := h
      cases b with
      | true => show ¬ _ < (-(X : Int)); omega
      | false => show ¬ _ < (X : Int); omega
  split
  · omega
  · first | omega | (rw [if_neg this]; omega)
theorem key_near {n : Num} (h : n.ok) (hn : n ≠ .nan) : n.cmp (.inf false) ≤ 0 := by
  unfold Num.cmp
  have : ¬ (Num.inf false).key < n.key := by
    show ¬ (1000000000000000 : Int) < n.key
    cases n with
    | nan => exact absurd rfl hn
    | inf b => cases b with
      | true => show ¬ _ < (-1000000000000000 : Int); omega
      | false => show ¬ _ < (1000000000000000 : Int); omega
    | fin b X =>
      have hX : X < 1000000000000000 := h
      cases b with
      | true => show ¬ _ < (-(X : Int)); omega
      | false => show ¬ _ < (X : Int); omega
  split
  · omega
  · first | omega | (rw [if_neg this]; omega)
theorem form_nan {n : Num} (h : n.ok) (he : canonB n = [78, 97, 78]) : n = .nan := by
  have h1 := canon_num h
  rw [he] at h1
  have h2 : numB [78, 97, 78] = some .nan := by rfl
  rw [h2] at h1
  exact (Option.some.inj h1).symm

theorem num_ni : numB (bytes (⟨#[45, 73, 110, 102, 105, 110, 105, 116, 121]⟩ : ByteArray)) = some (.inf true) := by rfl
theorem num_nan : numB (bytes (⟨#[78, 97, 78]⟩ : ByteArray)) = some .nan := by rfl
theorem num_inf : numB (bytes (⟨#[73, 110, 102, 105, 110, 105, 116, 121]⟩ : ByteArray)) = some (.inf false) := by rfl
theorem cS_ni : cS (bytes (⟨#[45, 73, 110, 102, 105, 110, 105, 116, 121]⟩ : ByteArray)) = bytes (⟨#[45, 73, 110, 102, 105, 110, 105, 116, 121]⟩ : ByteArray) := by rw [cS_num num_ni]; rfl
theorem cS_nan : cS (bytes (⟨#[78, 97, 78]⟩ : ByteArray)) = bytes (⟨#[78, 97, 78]⟩ : ByteArray) := by rw [cS_num num_nan]; rfl
theorem cS_inf : cS (bytes (⟨#[73, 110, 102, 105, 110, 105, 116, 121]⟩ : ByteArray)) = bytes (⟨#[73, 110, 102, 105, 110, 105, 116, 121]⟩ : ByteArray) := by rw [cS_num num_inf]; rfl
theorem right_wide : realR (bytes (⟨#[45, 73, 110, 102, 105, 110, 105, 116, 121]⟩ : ByteArray)) (bytes (⟨#[78, 97, 78]⟩ : ByteArray)) = true := by
  unfold realR ownB
  rw [cE_num num_ni, cE_num num_nan, cS_ni, cS_nan, zC_of num_ni num_nan]
  simp
  decide
theorem right_near : realR (bytes (⟨#[45, 73, 110, 102, 105, 110, 105, 116, 121]⟩ : ByteArray)) (bytes (⟨#[73, 110, 102, 105, 110, 105, 116, 121]⟩ : ByteArray)) = true := by
  unfold realR ownB
  rw [cE_num num_ni, cE_num num_inf, cS_ni, cS_inf, zC_of num_ni num_inf]
  simp
  decide
theorem takes_none {l m s : Bs} (h : numB s = none) : realF l m s = none := by
  unfold realF bB
  rw [h]; rfl
theorem takes_wide {s : Bs} {n : Num} (h : numB s = some n) : realF (bytes (⟨#[45, 73, 110, 102, 105, 110, 105, 116, 121]⟩ : ByteArray)) (bytes (⟨#[78, 97, 78]⟩ : ByteArray)) s = some (cS s) := by
  unfold realF bB
  rw [h, num_ni, num_nan, zC_of h num_ni, zC_of h num_nan]
  have ho := num_okB h
  have h1 : 0 ≤ n.cmp (.inf true) := key_low ho
  have h2 : n.cmp .nan ≤ 0 := key_high ho
  rw [decide_eq_true h1, decide_eq_true h2]; rfl
theorem takes_near {s : Bs} {n : Num} (h : numB s = some n) (hn : n ≠ .nan) : realF (bytes (⟨#[45, 73, 110, 102, 105, 110, 105, 116, 121]⟩ : ByteArray)) (bytes (⟨#[73, 110, 102, 105, 110, 105, 116, 121]⟩ : ByteArray)) s = some (cS s) := by
  unfold realF bB
  rw [h, num_ni, num_inf, zC_of h num_ni, zC_of h num_inf]
  have ho := num_okB h
  have h1 : 0 ≤ n.cmp (.inf true) := key_low ho
  have h2 : n.cmp (.inf false) ≤ 0 := key_near ho hn
  rw [decide_eq_true h1, decide_eq_true h2]; rfl
theorem takes_nan {s : Bs} (h : numB s = some .nan) : realF (bytes (⟨#[45, 73, 110, 102, 105, 110, 105, 116, 121]⟩ : ByteArray)) (bytes (⟨#[73, 110, 102, 105, 110, 105, 116, 121]⟩ : ByteArray)) s = none := by
  unfold realF bB
  rw [h, num_ni, num_inf, zC_of h num_ni, zC_of h num_inf]
  rfl

theorem cn_some (F : Bs) {n : Nat} (h : n ≤ 60) : cnS true (some F) n = F ∧ cnE true (some F) n = 0 := by
  unfold cnS cnE; rw [if_pos ⟨rfl, h⟩, if_pos rfl, if_pos ⟨h, rfl⟩]; exact ⟨rfl, rfl⟩
theorem cn_none (n : Nat) : cnE true none n = 9 := by unfold cnE; rw [if_pos rfl, if_neg (by simp)]
theorem cn_long (F : Option Bs) {n : Nat} (h : ¬ n ≤ 60) : cnE true F n = 9 := by unfold cnE; rw [if_pos rfl, if_neg (fun hh => h hh.1)]
theorem ways_p (s : ByteArray) : WaysP s ⟨(cS (bytes s)).toArray⟩ ⟨(cnS true (realF (bytes (⟨#[45, 73, 110, 102, 105, 110, 105, 116, 121]⟩ : ByteArray)) (bytes (⟨#[78, 97, 78]⟩ : ByteArray)) (bytes s)) s.size).toArray⟩ ⟨(cnS true (realF (bytes (⟨#[45, 73, 110, 102, 105, 110, 105, 116, 121]⟩ : ByteArray)) (bytes (⟨#[73, 110, 102, 105, 110, 105, 116, 121]⟩ : ByteArray)) (bytes s)) s.size).toArray⟩ (cE (bytes s)) (cnE true (realF (bytes (⟨#[45, 73, 110, 102, 105, 110, 105, 116, 121]⟩ : ByteArray)) (bytes (⟨#[78, 97, 78]⟩ : ByteArray)) (bytes s)) s.size) (cnE true (realF (bytes (⟨#[45, 73, 110, 102, 105, 110, 105, 116, 121]⟩ : ByteArray)) (bytes (⟨#[73, 110, 102, 105, 110, 105, 116, 121]⟩ : ByteArray)) (bytes s)) s.size) := by
  unfold WaysP
  cases h : numB (bytes s) with
  | none =>
    rw [takes_none h, takes_none h, cn_none, cE_none h]
    exact .inl ⟨⟨rfl, rfl⟩, rfl⟩
  | some n =>
    rw [cE_num h]
    by_cases hs : s.size ≤ 60
    · rw [takes_wide h, (cn_some _ hs).1, (cn_some _ hs).2]
      by_cases hn : n = .nan
      · subst hn
        rw [takes_nan h, cn_none]
        exact .inr (.inr (.inl ⟨⟨⟨⟨rfl, rfl⟩, rfl⟩, by omega⟩, by rw [cS_num h]; exact ⟨rfl, rfl⟩⟩))
      · rw [takes_near h hn, (cn_some _ hs).1, (cn_some _ hs).2]
        refine .inr (.inr (.inr ⟨⟨⟨⟨rfl, rfl⟩, rfl⟩, by omega⟩, ⟨rfl, rfl⟩, fun he => hn ?_⟩))
        have h2 := congrArg bytes he
        rw [bytes_mk, cS_num h] at h2
        exact form_nan (num_okB h) h2
    · rw [cn_long _ hs, cn_long _ hs]
      exact .inr (.inl ⟨⟨⟨rfl, rfl⟩, rfl⟩, by omega⟩)
theorem right_own {l m : Bs} {n k : Num} (hn : numB l = some n) (hk : numB m = some k) : realR (cS l) (cS m) = decide (zC (cS l) (cS m) ≤ 0) := by
  unfold realR ownB
  rw [cE_num (num_cS hn), cE_num (num_cS hk)]
  have h1 : cS (cS l) = cS l := by rw [cS_num (num_cS hn), ← cS_num hn]
  have h2 : cS (cS m) = cS m := by rw [cS_num (num_cS hk), ← cS_num hk]
  rw [h1, h2]
  simp
theorem cS_none {l : Bs} (h : numB l = none) : cS l = [] := by unfold cS; rw [h]
theorem own_nil : ownB [] = false := by
  unfold ownB
  rw [cE_none (show numB [] = none from by rfl)]; rfl
theorem ways_q (s a b : ByteArray) : WaysQ s (cE (bytes a)) (cE (bytes b)) (zC (cS (bytes a)) (cS (bytes b))) (bE (bytes s) (cS (bytes a)) (cS (bytes b))) (cnE (realR (cS (bytes a)) (cS (bytes b))) (realF (cS (bytes a)) (cS (bytes b)) (bytes s)) s.size) (realR (cS (bytes a)) (cS (bytes b))) (bB (bytes s) (cS (bytes a)) (cS (bytes b))) := by
  unfold WaysQ
  cases ha : numB (bytes a) with
  | none =>
    refine .inl ⟨cE_none ha, ?_⟩
    unfold realR
    rw [cS_none ha, own_nil]; rfl
  | some n =>
    cases hb : numB (bytes b) with
    | none =>
      refine .inr (.inl ⟨⟨cE_num ha, cE_none hb⟩, ?_⟩)
      unfold realR
      rw [cS_none hb, own_nil, Bool.and_false]; rfl
    | some k =>
      rw [right_own ha hb, cE_num ha, cE_num hb]
      by_cases hc : zC (cS (bytes a)) (cS (bytes b)) ≤ 0
      · rw [decide_eq_true hc]
        refine .inr (.inr (.inr ⟨⟨⟨⟨rfl, rfl⟩, rfl⟩, hc⟩, ?_⟩))
        cases hq : bB (bytes s) (cS (bytes a)) (cS (bytes b)) with
        | true =>
          have hj : bE (bytes s) (cS (bytes a)) (cS (bytes b)) = 0 := by
            unfold bB at hq
            rw [Bool.and_eq_true] at hq
            unfold bE
            rw [if_pos hq.1]
          have hf : realF (cS (bytes a)) (cS (bytes b)) (bytes s) = some (cS (bytes s)) := by unfold realF; rw [if_pos hq]
          by_cases hs : s.size ≤ 60
          · exact .inl ⟨⟨⟨rfl, hj⟩, by rw [hf]; exact (cn_some _ hs).2⟩, by omega⟩
          · exact .inr (.inl ⟨⟨⟨rfl, hj⟩, cn_long _ hs⟩, by omega⟩)
        | false =>
          have hf : realF (cS (bytes a)) (cS (bytes b)) (bytes s) = none := by unfold realF; rw [if_neg (by rw [hq]; decide)]
          have hj : bE (bytes s) (cS (bytes a)) (cS (bytes b)) = 0 ∨ bE (bytes s) (cS (bytes a)) (cS (bytes b)) = 9 := by
            unfold bE; split
            · exact .inl rfl
            · exact .inr rfl
          rcases hj with hj | hj
          · exact .inr (.inr (.inl ⟨⟨rfl, hj⟩, by rw [hf, cn_none]⟩))
          · exact .inr (.inr (.inr ⟨⟨rfl, hj⟩, by rw [hf, cn_none]⟩))
      · rw [decide_eq_false hc]
        exact .inr (.inr (.inl ⟨⟨⟨rfl, rfl⟩, rfl⟩, by omega⟩))
theorem form_short (l : Bs) : (⟨(cS l).toArray⟩ : ByteArray).size ≤ 17 := by
  rw [size_mk]
  cases h : numB l with
  | none => rw [cS_none h]; decide
  | some n => rw [cS_num h]; exact canon_short (num_okB h)
set_option maxRecDepth 100000 in
set_option maxHeartbeats 8000000 in
theorem reals_walk (w : World) (s a b : ByteArray) (hT : Tabs w) (hw : 1 ≤ w.heap.size) (zs : s.size ≤ 140737488351232) (za : a.size ≤ 140737488351232) (zb : b.size ≤ 140737488351232) :
    Calls Tryz.prog 4 #[.string s, .string a, .string b] w fun e w' => e = .returned (.bool true) ∧ Below w.heap.size w w' := by
  by_cases hz : (s.size : Int) + a.size + b.size ≤ 1500
  · have fa := form_short (bytes a); have fb := form_short (bytes b)
    refine reals_run w s a b ⟨(cS (bytes s)).toArray⟩ _ _ ⟨(cS (bytes a)).toArray⟩ ⟨(cS (bytes b)).toArray⟩ ⟨(cnS (realR (cS (bytes a)) (cS (bytes b))) (realF (cS (bytes a)) (cS (bytes b)) (bytes s)) s.size).toArray⟩ (cE (bytes s)) _ _ (cE (bytes a)) (cE (bytes b)) (zC (cS (bytes a)) (cS (bytes b))) (zE (cS (bytes a)) (cS (bytes b))) (bE (bytes s) (cS (bytes a)) (cS (bytes b))) _ (realR (cS (bytes a)) (cS (bytes b))) (bB (bytes s) (cS (bytes a)) (cS (bytes b))) hT hw hz
      (fun W hT hw => canon_at s W hT hw (by omega)) (fun W hT hw => ?_) (fun W hT hw => ?_) (fun W hT hw => canon_at a W hT hw (by omega)) (fun W hT hw => canon_at b W hT hw (by omega)) (fun W hT hw => ?_) (fun W hT hw => ?_) (fun W hT hw => ?_) (fun W hT hw => ?_) (ways_p s) (ways_q s a b)
    · have := vcanon_real (⟨#[45, 73, 110, 102, 105, 110, 105, 116, 121]⟩ : ByteArray) (⟨#[78, 97, 78]⟩ : ByteArray) s W hT hw (by decide) (by decide) (by omega)
      rw [right_wide] at this
      exact this
    · have := vcanon_real (⟨#[45, 73, 110, 102, 105, 110, 105, 116, 121]⟩ : ByteArray) (⟨#[73, 110, 102, 105, 110, 105, 116, 121]⟩ : ByteArray) s W hT hw (by decide) (by decide) (by omega)
      rw [right_near] at this
      exact this
    · have := cmp_at ⟨(cS (bytes a)).toArray⟩ ⟨(cS (bytes b)).toArray⟩ W hT (by omega) (by omega)
      rw [bytes_mk, bytes_mk] at this
      exact this
    · have := vright_real ⟨(cS (bytes a)).toArray⟩ ⟨(cS (bytes b)).toArray⟩ W hT hw (by omega) (by omega)
      rw [bytes_mk, bytes_mk] at this
      exact this
    · have := between_at s ⟨(cS (bytes a)).toArray⟩ ⟨(cS (bytes b)).toArray⟩ W hT (by omega) (by omega) (by omega)
      rw [bytes_mk, bytes_mk] at this
      exact this
    · have := vcanon_real ⟨(cS (bytes a)).toArray⟩ ⟨(cS (bytes b)).toArray⟩ s W hT hw (by omega) (by omega) (by omega)
      rw [bytes_mk, bytes_mk] at this
      exact this
  · have HSH := Lib.hid (fun W hT hw => vshown_any W hT hw)
    have HT := Lib.hid hT
    clear hT
    have zs' : 1500 < (s.size : Int) + a.size + b.size := by omega
    clear hz
    go_enter Tryz.func4, Tryz.ntmps4
    go_wp2_with fail
    refine (HSH.out _ HT.out hw).mono ?_; rintro r w1 ⟨rfl, hb⟩
    have H1 := Lib.hid hb
    clear hb
    go_wp2_with fail
    go_ret
    exact ⟨rfl, H1.out⟩

set_option maxRecDepth 100000 in
theorem reals_lifted (os : Os) (started : os.Started) (H : Type) (enc : TypeId × Value → H) :
    ReturnsInHanded {} Tryz.checked os 4 .any (fun w args => (Rows.valueRealsSpec.pre enc Tryz.prog Tryz.f4 Rows.valueRealsRow.domain false w args ∧ laidMetH Tryz.prog laidL w) ∧ sizedMet enc Tryz.prog Tryz.f4 (OpenSpec.ofChange Rows.valueRealsSpec) false w args) (Rows.valueRealsSpec.post enc Tryz.prog Tryz.f4 false true false false) := by
  refine handed_laid (C := Tryz.checked) (X := fun w _ => laidMetH Tryz.prog laidL w) (fun _ _ _ hh h => h.of_heap hh) own started (by kernel_rfl) Tryz.func4
    (ChangeSpec.witness_shaped (enc := enc) (C := Tryz.checked) (os := os) (X := fun w _ => laidMetH Tryz.prog laidL w) false (World.laidAll Tryz.prog os laidL) #[.string { data := #[] }, .string { data := #[] }, .string { data := #[] }] 8 (World.laidAll_os _ _ _) (World.shaped_of_ZipB (by kernel_rfl) (by kernel_rfl)) (by kernel_rfl) (by kernel_rfl) (by kernel_rfl)
      (by rw [MakeChecks.laidMetH_plain _ _ _ (by kernel_rfl)]; exact laidMet_laidAll _ (by kernel_rfl) (by kernel_rfl))) ?_
  intro W base args ds gs before hval0 hW hsz0 hsh hL
  obtain ⟨m0, hm0⟩ : ∃ m, W.cell? ⟨4, 0, none⟩ = some (.int .i64 m) := Tryz.laysM145.s1_3 W hsh
  have hT := tabs_of_laid ⟨m0, hm0⟩ hL
  have hw : 1 ≤ W.heap.size := Nat.lt_of_le_of_lt (Nat.zero_le _) (World.block_lt_of_cell? W ⟨4, 0, none⟩ hm0)
  have hsz : (DataW.weightsEach Tryz.prog (Tryz.f4.params.toList ++ Rows.valueRealsSpec.plain.varTypes Tryz.prog) (ds ++ gs)).all (· ≤ reachBytes) = true := hsz0
  clear hsz0
  have hval : ∀ (j : Nat) t v, Tryz.f4.params[j]? = some t → args[j]? = some v → Value.okWide Tryz.prog W .any base t v := hval0
  have hW' := hW
  obtain ⟨p, q, hA0, hV, rfl, _, _⟩ := hW
  have hA : DataW.TrodAll enc Tryz.prog W 0 (fun _ => true) true Tryz.f4.params.toList args.toList ds p := hA0
  rw [Tryz.params4] at hA hval hsz
  obtain ⟨v0, v1, v2, d0, d1, d2, p0, p1, p2, rfl, rfl, rfl, h0, h1, h2⟩ := trodAll_three hA
  obtain ⟨rfl, rfl⟩ := trodVars_none hV
  obtain ⟨s, rfl, rfl, rfl, hl_s⟩ := Go.ChangeMaps.open_string Tryz.underlying9 (hval 0 9 v0 rfl rfl) h0
  have hz_s : s.size ≤ 140737488351232 := by have := sized_string hsz (j := 0) (t := 9) rfl rfl; rw [size_list] at this; exact this
  obtain ⟨a, rfl, rfl, rfl, hl_a⟩ := Go.ChangeMaps.open_string Tryz.underlying9 (hval 1 9 v1 rfl rfl) h1
  have hz_a : a.size ≤ 140737488351232 := by have := sized_string hsz (j := 1) (t := 9) rfl rfl; rw [size_list] at this; exact this
  obtain ⟨b, rfl, rfl, rfl, hl_b⟩ := Go.ChangeMaps.open_string Tryz.underlying9 (hval 2 9 v2 rfl rfl) h2
  have hz_b : b.size ≤ 140737488351232 := by have := sized_string hsz (j := 2) (t := 9) rfl rfl; rw [size_list] at this; exact this
  refine (reals_walk W s a b hT hw hz_s hz_a hz_b).mono fun e W' ⟨he, hb⟩ => ?_
  subst he
  exact ⟨_, rfl, law_shut laidOut (by kernel_rfl) (by kernel_rfl) Tryz.underlying4 rfl hW' rfl hb⟩

theorem reals_holds : Rows.ValueRealsSaid :=
  OpenClaim.holds_of_wide 4 Tryz.f4 rfl rfl rfl rfl rfl rfl rfl ⟨rfl, rfl, rfl, rfl, rfl⟩ rfl rfl rfl rfl rfl (by kernel_rfl) Tryz.func4 (by kernel_rfl)
    (of_decide_eq_true (by kernel_rfl)) (by unfold Func.isWrapper; rw [if_neg (of_decide_eq_false (by kernel_rfl))]; exact ⟨rfl, rfl⟩)
    (fun os started H enc _ => reals_lifted os started H enc)

theorem reals_card : Rows.ValueRealsCardSaid :=
  Claim7.holds_tied_plain_at .later [] [.data, .data, .widerDeep, .widerDeep, .data, .data, .data, .data, .data, .data, .sentinel, .sentinel, .pinned, .pinned, .pinned] true _ true reals_holds (fun _ h => by cases h) (by kernel_rfl) (fun _ h => by cases h) valueReals_row_tie rfl ⟨rfl, rfl⟩ (by kernel_rfl) rfl
    (fun f fn hf hfn => by
      obtain rfl : f = 4 := Option.some.inj ((show Tryz.prog.funcNamed "taxirank/taxiranklaw6.ValueReals" = some 4 by kernel_rfl).symm.trans hf) |>.symm
      obtain rfl : fn = Tryz.f4 := (Option.some.inj (Tryz.func4.symm.trans hfn)).symm
      exact ⟨by kernel_rfl, fun j t ht => by
        rw [Tryz.params4] at ht
        have hm : t ∈ [9, 9, 9] := by simpa using Array.mem_of_getElem? ht
        have hall : ([9, 9, 9].all fun u => !Tryz.prog.wantsStandIn u) = true := by kernel_rfl
        exact (show Tryz.prog.wantsStandIn t = false by simpa using List.all_eq_true.1 hall t hm)⟩)
    (by kernel_rfl)
end Go.Proofs.YtaalopiegabghaaGreatDoor
