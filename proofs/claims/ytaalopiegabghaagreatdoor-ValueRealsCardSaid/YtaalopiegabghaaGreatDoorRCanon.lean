/- The one form of a number: mathematics. No program is named here. -/
import Derived.Test.YtaalopiegabghaaGreatDoorRText
import Derived.Test.YtaalopiegabghaaGreatDoorFFtoa
namespace Go.Proofs.YtaalopiegabghaaGreatDoor
open Go.Lib

/-- k digits of n. -/
def pad : Nat → Nat → Bs
  | 0, _ => []
  | k + 1, n => pad k (n / 10) ++ [UInt8.ofNat (48 + n % 10)]
theorem pad_length : ∀ k n, (pad k n).length = k
  | 0, _ => rfl
  | k + 1, n => by rw [pad, List.length_append, pad_length k]; rfl
theorem dg_one {x : Nat} (hx : x < 10) : isDg (UInt8.ofNat (48 + x)) ∧ (UInt8.ofNat (48 + x)).toNat - 48 = x := by
  unfold isDg; rw [UInt8.toNat_ofNat', Nat.mod_eq_of_lt (by omega)]; omega
theorem pad_dg : ∀ k n, ∀ c ∈ pad k n, isDg c
  | 0, _, c, hc => by cases hc
  | k + 1, n, c, hc => by
    rw [pad] at hc
    rcases List.mem_append.1 hc with h | h
    · exact pad_dg k _ c h
    · obtain rfl := List.mem_singleton.1 h
      exact (dg_one (Nat.mod_lt _ (by decide))).1
theorem dg_back {c : UInt8} (h : isDg c) : UInt8.ofNat (48 + (c.toNat - 48)) = c := by
  unfold isDg at h
  rw [show 48 + (c.toNat - 48) = c.toNat by omega, UInt8.ofNat_toNat]
theorem pad_val : ∀ (k : Nat) (l : Bs), l.length = k → (∀ c ∈ l, isDg c) → pad k (val l) = l
  | 0, l, h, _ => (List.length_eq_zero_iff.1 h).symm
  | k + 1, l, h, hd => by
    rcases List.eq_nil_or_concat l with rfl | ⟨a, c, rfl⟩
    · cases h
    · rw [List.concat_eq_append] at h hd ⊢
      rw [List.length_append, List.length_singleton] at h
      have hc := hd c (List.mem_append_right _ (List.mem_singleton.2 rfl))
      have hb := dg_back hc
      unfold isDg at hc
      rw [pad, val_snoc, show (10 * val a + (c.toNat - 48)) / 10 = val a by omega, show (10 * val a + (c.toNat - 48)) % 10 = c.toNat - 48 by omega, hb, pad_val k a (by omega) fun x hx => hd x (List.mem_append_left _ hx)]
theorem val_pad : ∀ k n, n < 10 ^ k → val (pad k n) = n
  | 0, n, h => by rw [Nat.pow_zero] at h; rw [pad, val_nil]; omega
  | k + 1, n, h => by
    rw [Nat.pow_succ] at h
    rw [pad, val_snoc, val_pad k (n / 10) (by omega), (dg_one (Nat.mod_lt n (by decide : 10 > 0))).2]; omega
theorem val_append (a : Bs) : ∀ b : Bs, val (a ++ b) = val a * 10 ^ b.length + val b := by
  intro b
  obtain ⟨n, hn⟩ : ∃ n, n = b.length := ⟨_, rfl⟩
  induction n generalizing b with
  | zero => rw [List.length_eq_zero_iff.1 hn.symm, List.append_nil, List.length_nil, Nat.pow_zero, val_nil]; omega
  | succ n ih =>
    rcases List.eq_nil_or_concat b with rfl | ⟨b, c, rfl⟩
    · cases hn
    · rw [List.concat_eq_append] at hn ⊢
      rw [List.length_append, List.length_singleton] at hn
      rw [← List.append_assoc, val_snoc, val_snoc, ih b (by omega), List.length_append, List.length_singleton, Nat.pow_succ]
      rw [Nat.mul_add, Nat.add_assoc]
      congr 1
      rw [Nat.mul_comm 10, Nat.mul_assoc]
/-- A row without the noughts at its head. -/
def headZ (l : Bs) : Bs := l.dropWhile (· == 48)
theorem headZ_split : ∀ l : Bs, ∃ k, l = List.replicate k 48 ++ headZ l
  | [] => ⟨0, rfl⟩
  | c :: l => by
    unfold headZ
    rw [List.dropWhile_cons]
    by_cases h : c = 48
    · subst h
      obtain ⟨k, hk⟩ := headZ_split l
      refine ⟨k + 1, ?_⟩
      rw [if_pos (by decide), List.replicate_succ, List.cons_append]
      exact congrArg _ hk
    · exact ⟨0, by rw [if_neg (by simpa using h)]; rfl⟩
theorem headZ_head (l : Bs) : ∀ c t, headZ l = c :: t → c ≠ 48 := by
  intro c t h
  have h2 := List.head_dropWhile_not (p := fun x : UInt8 => x == 48) (l := l) (by unfold headZ at h; rw [h]; simp)
  unfold headZ at h
  simp only [h, List.head_cons] at h2
  simpa using h2
theorem decDigits_ge {u : Nat} (h : 10 ≤ u) : decDigits u = decDigits (u / 10) ++ [UInt8.ofNat (48 + u % 10)] := by
  rw [decDigits, dif_neg (by omega)]
theorem decDigits_lt {u : Nat} (h : u < 10) : decDigits u = [UInt8.ofNat (48 + u)] := by
  rw [decDigits, dif_pos h]
/-- A row of digits that begins with none that is nought is what its number is written as. -/
theorem dec_val : ∀ (n : Nat) (l : Bs), l.length = n → (∀ c ∈ l, isDg c) → (∀ c t, l = c :: t → c ≠ 48) → 0 < n → 0 < val l ∧ decDigits (val l) = l
  | 0, _, _, _, _, h => absurd h (by decide)
  | n + 1, l, h, hd, hh, _ => by
    rcases List.eq_nil_or_concat l with rfl | ⟨a, c, rfl⟩
    · cases h
    · rw [List.concat_eq_append] at h hd hh ⊢
      rw [List.length_append, List.length_singleton] at h
      have hc := hd c (List.mem_append_right _ (List.mem_singleton.2 rfl))
      have hb := dg_back hc
      have hne : c.toNat = 48 → c = 48 := fun e => UInt8.toNat_inj.1 e
      unfold isDg at hc
      rw [val_snoc]
      rcases Nat.eq_zero_or_pos n with rfl | hn
      · obtain rfl := List.length_eq_zero_iff.1 (show a.length = 0 by omega)
        have h48 := hh c [] rfl
        have : c.toNat ≠ 48 := fun e => h48 (hne e)
        rw [val_nil]
        refine ⟨by omega, ?_⟩
        rw [decDigits_lt (by omega), Nat.mul_zero, Nat.zero_add, hb]; rfl
      · obtain ⟨h1, h2⟩ := dec_val n a (by omega) (fun x hx => hd x (List.mem_append_left _ hx)) (fun x t e => hh x (t ++ [c]) (by rw [e]; rfl)) hn
        refine ⟨by omega, ?_⟩
        rw [decDigits_ge (by omega), show (10 * val a + (c.toNat - 48)) / 10 = val a by omega, show (10 * val a + (c.toNat - 48)) % 10 = c.toNat - 48 by omega, hb, h2]
theorem val_head (l : Bs) : val l = val (headZ l) := by
  obtain ⟨k, hk⟩ := headZ_split l
  obtain ⟨H, hH⟩ : ∃ H, H = headZ l := ⟨_, rfl⟩
  rw [← hH] at hk ⊢
  rw [hk, val_append, val_zeros]; omega
theorem headZ_mem {l : Bs} {c : UInt8} (h : c ∈ headZ l) : c ∈ l := (List.dropWhile_sublist _).subset h
theorem dec_head (l : Bs) (hd : ∀ c ∈ l, isDg c) : decDigits (val l) = if headZ l = [] then [48] else headZ l := by
  rw [val_head]
  by_cases h : headZ l = []
  · rw [if_pos h, h, val_nil, decDigits_lt (by decide)]; rfl
  · rw [if_neg h]
    exact (dec_val _ _ rfl (fun c hc => hd c (headZ_mem hc)) (headZ_head l) (List.length_pos_iff.2 h)).2
theorem dec_pad : ∀ (k X : Nat), 10 ^ k ≤ X → decDigits X = decDigits (X / 10 ^ k) ++ pad k (X % 10 ^ k)
  | 0, X, _ => by rw [Nat.pow_zero, Nat.div_one, pad, List.append_nil]
  | k + 1, X, h => by
    have hp : 0 < 10 ^ k := Nat.pow_pos (by decide)
    rw [Nat.pow_succ] at h
    rw [decDigits_ge (by omega), dec_pad k (X / 10) (by omega), pad, ← List.append_assoc]
    rw [Nat.div_div_eq_div_mul, Nat.pow_succ, Nat.mul_comm 10]
    congr 2
    · congr 1
      rw [Nat.mul_comm (10 ^ k) 10, Nat.mod_mul_right_div_self]
    · rw [Nat.mod_mul_left_mod]
theorem pad_dec : ∀ (k X : Nat), 0 < X → X < 10 ^ k → pad k X = List.replicate (k - (decDigits X).length) 48 ++ decDigits X ∧ (decDigits X).length ≤ k
  | 0, X, h, h2 => by rw [Nat.pow_zero] at h2; omega
  | k + 1, X, h, h2 => by
    rw [Nat.pow_succ] at h2
    by_cases h10 : X < 10
    · have hz : ∀ k, pad k 0 = List.replicate k 48 := by
        intro k
        induction k with
        | zero => rfl
        | succ k ih => rw [pad, Nat.zero_div, ih, List.replicate_succ']; rfl
      rw [pad, Nat.div_eq_of_lt h10, hz, decDigits_lt h10, Nat.mod_eq_of_lt h10]
      exact ⟨rfl, Nat.succ_le_succ (Nat.zero_le _)⟩
    · obtain ⟨e, hl⟩ := pad_dec k (X / 10) (by omega) (by omega)
      rw [pad, e, decDigits_ge (u := X) (by omega), List.length_append, List.length_singleton, Nat.add_sub_add_right, List.append_assoc]
      exact ⟨rfl, Nat.succ_le_succ hl⟩
theorem trimZ_append (a b : Bs) : trimZ (a ++ b) = if trimZ b = [] then trimZ a else a ++ trimZ b := by
  unfold trimZ
  rw [List.reverse_append]
  by_cases h : (b.reverse.dropWhile (· == 48)) = []
  · rw [if_pos (by rw [h]; rfl)]
    congr 1
    have hall := drop_nil.1 h
    generalize b.reverse = r at hall
    clear h
    induction r with
    | nil => rfl
    | cons c r ih =>
      rw [List.cons_append, List.dropWhile_cons, if_pos (hall c List.mem_cons_self)]
      exact ih fun x hx => hall x (List.mem_cons_of_mem _ hx)
  · rw [if_neg (by rwa [List.reverse_eq_nil_iff])]
    generalize b.reverse = r at h
    have : ∀ r : Bs, List.dropWhile (· == 48) r ≠ [] → List.dropWhile (· == 48) (r ++ a.reverse) = List.dropWhile (· == 48) r ++ a.reverse := by
      intro r
      induction r with
      | nil => intro h; exact absurd rfl h
      | cons c r ih =>
        intro h
        rw [List.cons_append, List.dropWhile_cons, List.dropWhile_cons]
        by_cases hc : (c == 48) = true
        · rw [if_pos hc, if_pos hc]
          rw [List.dropWhile_cons, if_pos hc] at h
          exact ih h
        · rw [if_neg hc, if_neg hc]; rfl
    rw [this r h, List.reverse_append, List.reverse_reverse]
theorem trimZ_mem {l : Bs} {c : UInt8} (h : c ∈ trimZ l) : c ∈ l := by
  obtain ⟨k, hk⟩ := trimZ_split l
  rw [hk]; exact List.mem_append_left _ h

/-- A number of millionths, as digits and a point. -/
def cdm (X : Nat) : Dcm := ⟨decDigits (X / 1000000), decide (trimZ (pad 6 (X % 1000000)) ≠ []), trimZ (pad 6 (X % 1000000))⟩
def milD (X : Nat) : Bs := if X = 0 then [48] else fixed X
theorem milText_eq (neg : Bool) (X : Nat) : milText neg X = (if neg = true then [45] else []) ++ milD X := rfl
theorem cdm_ok {X : Nat} (h : X < 1000000000000000) : (cdm X).ok := by
  refine ⟨decDigits_dg _, fun c hc => pad_dg _ _ c (trimZ_mem hc), ?_, ?_, ?_, ?_⟩
  · intro h
    have h : decide (trimZ (pad 6 (X % 1000000)) ≠ []) = false := h
    show trimZ (pad 6 (X % 1000000)) = []
    simpa using h
  · have : 0 < (cdm X).w.length := decDigits_pos _
    omega
  · show (decDigits (X / 1000000)).length ≤ 9
    rcases Nat.eq_zero_or_pos (X / 1000000) with e | e
    · rw [e, decDigits_lt (by decide)]; decide
    · exact (pad_dec 9 _ e (by omega)).2
  · show (trimZ _).length ≤ 6
    have := trimZ_length (pad 6 (X % 1000000))
    rw [pad_length] at this
    exact this
theorem cdm_text (X : Nat) : (cdm X).text = milD X := by
  unfold milD
  by_cases h0 : X = 0
  · subst h0
    have e : cdm 0 = ⟨[48], false, []⟩ := by unfold cdm; rw [Nat.zero_div, decDigits_lt (by decide)]; rfl
    rw [e]; rfl
  rw [if_neg h0]
  unfold fixed fText Dcm.text cdm
  simp only [decide_eq_true_eq]
  by_cases h6 : 1000000 ≤ X
  · have hD := dec_pad 6 X (by omega)
    rw [show (10 : Nat) ^ 6 = 1000000 from rfl] at hD
    obtain ⟨A, hA⟩ : ∃ A, A = decDigits (X / 1000000) := ⟨_, rfl⟩
    obtain ⟨B, hB⟩ : ∃ B, B = pad 6 (X % 1000000) := ⟨_, rfl⟩
    have hBl : B.length = 6 := by rw [hB, pad_length]
    have hAp : 0 < A.length := by rw [hA]; exact decDigits_pos _
    rw [← hA, ← hB] at hD
    rw [← hA, ← hB, hD, trimZ_append, List.length_append, hBl]
    clear hA hB hD
    have e0 : ((A.length + 6 : Nat) : Int) - 6 = (A.length : Nat) := by omega
    rw [e0, Int.toNat_natCast]
    by_cases hT : trimZ B = []
    · rw [if_pos hT, hT, if_neg (by simp), if_pos (by omega)]
      obtain ⟨k, hk⟩ := trimZ_split A
      have hl := congrArg List.length hk
      rw [List.length_append, List.length_replicate] at hl
      have hk2 : List.replicate (A.length - (trimZ A).length) (48 : UInt8) = List.replicate k 48 := by rw [show A.length - (trimZ A).length = k by omega]
      rw [List.take_of_length_le (by omega), if_neg (by omega), List.append_nil, hk2]
      exact hk
    · have hp : 0 < (trimZ B).length := List.length_pos_iff.2 hT
      rw [if_neg hT, if_pos hT, if_pos (by omega), List.take_left, List.length_append, Nat.sub_eq_zero_of_le (by omega), List.replicate_zero, List.nil_append, if_pos (by omega), List.drop_left]
  · obtain ⟨hP, hl⟩ := pad_dec 6 X (by omega) (by omega)
    rw [Nat.mod_eq_of_lt (by omega), Nat.div_eq_of_lt (by omega), hP]
    have hne : trimZ (decDigits X) ≠ [] := List.length_pos_iff.1 (trimZ_pos (by omega))
    rw [trimZ_append, if_neg hne, if_pos (by simp [hne]), if_neg (by omega), show (-(((decDigits X).length : Int) - 6)).toNat = 6 - (decDigits X).length by omega, decDigits_lt (by decide : 0 < 10)]
    rfl
theorem val_trim (a : Bs) (b : Bs) (k : Nat) (hb : b.length = k) : val (a ++ trimZ b) * 10 ^ (k - (trimZ b).length) = val (a ++ b) := by
  obtain ⟨m, hm⟩ := trimZ_split b
  have hl := congrArg List.length hm
  rw [List.length_append, List.length_replicate] at hl
  have e : val (a ++ b) = val ((a ++ trimZ b) ++ List.replicate m 48) := by rw [List.append_assoc, ← hm]
  rw [e, val_append (a ++ trimZ b), val_zeros, List.length_replicate, show k - (trimZ b).length = m by omega]; rfl
theorem cdm_mil (X : Nat) : (cdm X).mil = X := by
  unfold Dcm.mil Dcm.man cdm
  simp only
  rw [val_trim _ _ 6 (pad_length _ _), val_append, val_decDigits, pad_length, val_pad 6 _ (Nat.mod_lt _ (by decide))]
  omega
/-- How a number of digits is written in the one form. -/
theorem cdm_of {d : Dcm} (h : d.ok) : (cdm d.mil).w = (if headZ d.w = [] then [48] else headZ d.w) ∧ (cdm d.mil).p = trimZ d.p := by
  have hp := val_lt _ d.p rfl h.dp
  have h6 := h.p6
  obtain ⟨q, hq⟩ : ∃ q, q = 6 - d.p.length := ⟨_, rfl⟩
  have hz : val (d.p ++ List.replicate q 48) = val d.p * 10 ^ q := by rw [val_append, val_zeros, List.length_replicate]; omega
  have hX : d.mil = val d.w * 1000000 + val (d.p ++ List.replicate q 48) := by
    unfold Dcm.mil Dcm.man
    rw [val_append, ← hq, hz, Nat.add_mul, Nat.mul_assoc, ← Nat.pow_add, show d.p.length + q = 6 by omega]
  have hd : ∀ c ∈ d.p ++ List.replicate q 48, isDg c := fun c hc => (List.mem_append.1 hc).elim (h.dp c) fun h => by rw [List.eq_of_mem_replicate h]; unfold isDg; decide
  have hl : (d.p ++ List.replicate q 48).length = 6 := by rw [List.length_append, List.length_replicate]; omega
  have hlt := val_lt 6 _ hl hd
  have hpv := pad_val 6 _ hl hd
  obtain ⟨V, hV⟩ : ∃ V, V = val (d.p ++ List.replicate q 48) := ⟨_, rfl⟩
  rw [← hV] at hX hlt hpv
  rw [show (10 : Nat) ^ 6 = 1000000 from rfl] at hlt
  unfold cdm
  simp only
  rw [hX, show (val d.w * 1000000 + V) / 1000000 = val d.w by omega, show (val d.w * 1000000 + V) % 1000000 = V by omega, hpv, trimZ_zeros, dec_head _ h.dw]
  exact ⟨rfl, rfl⟩
theorem dg_ne {c : UInt8} (h : isDg c) : (c != 46) = true := by
  rw [bne_iff_ne]; rintro rfl; unfold isDg at h; exact absurd h (by decide)
theorem dot_of {d : Dcm} (h : d.ok) : dotOf d.text = d := by
  obtain ⟨w, dot, p⟩ := d
  have hw : ∀ x ∈ w, (x != 46) = true := fun x hx => dg_ne (h.dw x hx)
  have hnc : List.contains w (46 : UInt8) = false := by
    rw [← Bool.not_eq_true]; intro hc
    have := hw 46 (by simpa using hc)
    exact absurd this (by decide)
  cases dot with
  | true =>
    show dotOf (w ++ 46 :: p) = _
    unfold dotOf
    congr 1
    · rw [List.takeWhile_append_of_pos hw, List.takeWhile_cons, if_neg (by decide), List.append_nil]
    · simp
    · rw [List.dropWhile_append_of_pos hw, List.dropWhile_cons, if_neg (by decide)]; rfl
  | false =>
    obtain rfl : p = [] := h.nodot rfl
    show dotOf w = _
    unfold dotOf
    have h2 := List.takeWhile_append_dropWhile (p := fun x : UInt8 => x != 46) (l := w)
    rw [drop_nil.2 hw, List.append_nil] at h2
    congr 1
    · rw [drop_nil.2 hw]; rfl
theorem dec_of {d : Dcm} (h : d.ok) : decB d.text = true := by
  unfold decB
  rw [dot_of h]
  have hs := h.some
  simp only [Bool.and_eq_true, Bool.not_eq_true', Bool.and_eq_false_iff]
  refine ⟨?_, dgs_iff.2 ⟨h.w9, h.dw⟩, dgs_iff.2 ⟨h.p6, h.dp⟩⟩
  cases hw : d.w with
  | cons a l => left; rfl
  | nil =>
    right
    cases hp : d.p with
    | cons a l => rfl
    | nil => rw [hw, hp] at hs; exact absurd hs (by decide)
theorem low_plain {c : UInt8} (h : c.toNat < 65) : low c = c := by
  unfold low
  rw [if_neg]
  rw [UInt8.le_iff_toNat_le]
  intro hh
  have := hh.1
  rw [show (65 : UInt8).toNat = 65 from rfl] at this
  omega
theorem low_list {l : Bs} (h : ∀ c ∈ l, c.toNat < 65) : l.map low = l := by
  induction l with
  | nil => rfl
  | cons c l ih => rw [List.map_cons, low_plain (h c List.mem_cons_self), ih fun x hx => h x (List.mem_cons_of_mem _ hx)]
/-- A sign, then digits: what number it is. -/
theorem num_of (sg : Bs) {d : Dcm} (hs : Sgn sg) (h : d.ok) : numB (sg ++ d.text) = some (.fin (sgB sg) d.mil) := by
  have hb : ∀ c ∈ sg ++ d.text, c.toNat < 65 := fun c hc => by
    rcases List.mem_append.1 hc with h1 | h1
    · rcases hs with rfl | rfl | rfl
      · cases h1
      · rw [List.mem_singleton.1 h1]; decide
      · rw [List.mem_singleton.1 h1]; decide
    · have := h.byte h1; omega
  unfold numB
  rw [low_list hb]
  obtain ⟨c, t, hct⟩ : ∃ c t, d.text = c :: t := by
    cases he : d.text with
    | nil => have := h.pos; rw [he] at this; cases this
    | cons c t => exact ⟨c, t, rfl⟩
  have hc := h.byte (c := c) (by rw [hct]; exact List.mem_cons_self)
  have h43 : c ≠ 43 := by rintro rfl; exact absurd hc (by decide)
  have h45 : c ≠ 45 := by rintro rfl; exact absurd hc (by decide)
  have hsg : sgnOf (sg ++ d.text) = sg := by
    rcases hs with rfl | rfl | rfl
    · rw [List.nil_append, hct, sgn_cons, if_neg (by simp [h43, h45])]
    · rfl
    · rfl
  have hr : restOf (sg ++ d.text) = d.text := by unfold restOf; rw [hsg, List.drop_left]
  unfold numOf
  rw [hr, hsg]
  rw [if_neg, if_neg, if_pos (dec_of h), dot_of h]
  · rw [hct]; rintro (e | e) <;> (injection e with e _; subst e; exact absurd hc (by decide))
  · rw [hct]; intro e; injection e with e _; subst e; exact absurd hc (by decide)
def canonB : Num → Bs
  | .nan => [78, 97, 78]
  | .inf neg => (if neg = true then [45] else []) ++ [73, 110, 102, 105, 110, 105, 116, 121]
  | .fin neg X => milText neg X
/-- A form is its own form. -/
theorem canon_num {n : Num} (h : n.ok) : numB (canonB n) = some n := by
  cases n with
  | nan => rfl
  | inf s => cases s <;> rfl
  | fin s X =>
    show numB (milText s X) = _
    rw [milText_eq, ← cdm_text, num_of _ (by cases s; exact .inl rfl; exact .inr (.inr rfl)) (cdm_ok h), cdm_mil]
    cases s <;> rfl
theorem canon_inj {n m : Num} (hn : n.ok) (hm : m.ok) (h : canonB n = canonB m) : n = m := by
  have h1 := canon_num hn
  rw [h, canon_num hm] at h1
  exact (Option.some.inj h1).symm
theorem canon_short {n : Num} (h : n.ok) : (canonB n).length ≤ 17 := by
  cases n with
  | nan => decide
  | inf s => cases s <;> decide
  | fin s X =>
    show (milText s X).length ≤ 17
    rw [milText_eq, ← cdm_text, List.length_append]
    have := (cdm_ok h).short
    cases s <;> simp <;> omega
end Go.Proofs.YtaalopiegabghaaGreatDoor
