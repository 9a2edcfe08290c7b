/- Contracts and mathematics: ReadB, Steps, MRM. -/
import Derived.Test.YtmofnkinclckoaaGreatDoorRows
import Derived.Test.YtmofnkinclckoaaGreatDoorZ7
import Derived.Test.YtmofnkinclckoaaGreatDoorZ8
import Derived.Test.YtmofnkinclckoaaGreatDoorZ1
namespace Go.Proofs.YtmofnkinclckoaaGreatDoor
open Go.RowKit Go.Lib

/-- A slice of bytes that reads s. -/
def Reads (w : World) (v : Value) (s : ByteArray) : Prop :=
  (v = .slice none 0 0 ∧ s.size = 0) ∨ ∃ g o cap, v = .slice (some ⟨g, o, none⟩) s.size cap ∧ s.size ≤ cap ∧ g < w.heap.size ∧ Lies w g o s

theorem head_byteB (s : ByteArray) (h : 4 ≤ s.size) (hx : 0 < s.size) : (s[0]'hx).toNat = headT s false := by
  rw [headT, bytes_four s h]
  rfl

theorem good_frame {s : ByteArray} {bare : Bool} (h : frameE s bare = 0) : headN bare ≤ s.size ∧ 4 ≤ num s (headN bare - 4) ∧ num s (headN bare - 4) ≤ 10004 ∧ frameN s bare ≤ s.size ∧ (bare = false → 0 < headT s bare) := by
  unfold frameE at h
  repeat' split at h
  all_goals first | (exfalso; omega) | skip
  rename_i h1 h2 h3 h4
  refine ⟨by omega, by omega, by omega, by omega, fun hb => ?_⟩
  have : ¬ headT s bare = 0 := fun e => h2 (Or.inr ⟨hb, e⟩)
  omega

theorem firstB_err (s : ByteArray) (v : Value) (bare : Bool) (w : World) (hv : Reads w v s) (hE : ¬ frameE s bare = 0) :
    Calls Tryz.prog 23 #[v, .bool bare] w fun e w' => e = .returned (.tuple #[.agg #[.int .u8 0, .string { data := #[] }], .int .i64 0, .int .i64 (frameE s bare)]) ∧ Below w.heap.size w w' := by
  rcases hv with ⟨rfl, hz⟩ | ⟨g, o, cap, rfl, hcap, hg, hs⟩
  · have e : frameE s bare = 4 := by
      unfold frameE; rw [if_pos (by rw [hz]; unfold headN; split <;> omega)]
    rw [e]
    cases bare with
    | true => exact firstB_few_bare _ _ _ w (by omega)
    | false => exact firstB_few _ _ _ w (by omega)
  cases bare with
  | true =>
    unfold frameE at hE ⊢
    simp only [headN, if_true, frameN, Nat.sub_self, Nat.zero_add, Bool.true_eq_false, false_and, or_false] at hE ⊢
    by_cases h1 : s.size < 4
    · rw [if_pos h1]; exact firstB_few_bare _ _ _ w h1
    rw [if_neg h1] at hE ⊢
    by_cases h2 : num s 0 < 4
    · rw [if_pos h2]; exact firstB_form_bare g o cap s w (Lib.hid hs) hg hcap (by omega) h2
    rw [if_neg h2] at hE ⊢
    by_cases h3 : 10004 < num s 0
    · rw [if_pos h3]; exact firstB_long_bare g o cap s w (Lib.hid hs) hg hcap (by omega) h3
    rw [if_neg h3] at hE ⊢
    by_cases h4 : s.size < num s 0
    · rw [if_pos h4]; exact firstB_more_bare g o cap s w (Lib.hid hs) hg hcap (by omega) (by omega) (by omega) h4
    · rw [if_neg h4] at hE; exact absurd rfl hE
  | false =>
    unfold frameE at hE ⊢
    simp only [headN, Bool.false_eq_true, if_false, frameN, true_and, show 5 - 4 = 1 from rfl] at hE ⊢
    by_cases h1 : s.size < 5
    · rw [if_pos h1]; exact firstB_few _ _ _ w h1
    have hx : 0 < s.size := by omega
    have ht := head_byteB s (by omega) hx
    rw [if_neg h1] at hE ⊢
    by_cases h2 : num s 1 < 4
    · rw [if_pos (Or.inl h2)]; exact firstB_formN _ g o cap s w (Lib.hid hs) hg hcap (by omega) hx ht h2
    by_cases h0 : headT s false = 0
    · rw [if_pos (Or.inr h0)]; exact firstB_formT g o cap s w (Lib.hid hs) hg hcap (by omega) hx (ht.trans h0) (by omega)
    rw [if_neg (fun h => h.elim h2 h0)] at hE ⊢
    by_cases h3 : 10004 < num s 1
    · rw [if_pos h3]; exact firstB_long _ g o cap s w (Lib.hid hs) hg hcap (by omega) hx ht h3 (by omega)
    rw [if_neg h3] at hE ⊢
    by_cases h4 : s.size < 1 + num s 1
    · rw [if_pos h4]; exact firstB_more _ g o cap s w (Lib.hid hs) hg hcap (by omega) hx ht (by omega) (by omega) (by omega) (by omega)
    · rw [if_neg h4] at hE; exact absurd rfl hE

theorem firstB_good (s : ByteArray) (v : Value) (bare : Bool) (w : World) (hv : Reads w v s) (hE : frameE s bare = 0) :
    Calls Tryz.prog 23 #[v, .bool bare] w fun e w' => e = .returned (.tuple #[.agg #[.int .u8 (headT s bare : Nat), .string (frameB s bare)], .int .i64 (frameN s bare : Nat), .int .i64 0]) ∧ Below w.heap.size w w' := by
  obtain ⟨h1, h2, h3, h4, h5⟩ := good_frame hE
  rcases hv with ⟨rfl, hz⟩ | ⟨g, o, cap, rfl, hcap, hg, hs⟩
  · exfalso; unfold headN at h1; split at h1 <;> omega
  cases bare with
  | true =>
    simp only [headN, if_true, frameN, Nat.sub_self, Nat.zero_add] at h1 h2 h3 h4
    have eT : ((headT s true : Nat) : Int) = 0 := rfl
    have eN : frameN s true = num s 0 := by simp only [headN, if_true, frameN, Nat.sub_self, Nat.zero_add]
    have eB : frameB s true = s.extract 4 (num s 0) := by simp only [frameB, headN, if_true, frameN, Nat.sub_self, Nat.zero_add]
    by_cases hc : cap = 4
    · subst hc
      have hz : s.size = 4 := by omega
      have hm : num s 0 = 4 := by omega
      have e1 : frameB s true = { data := #[] } := by
        rw [eB, hm]; apply bytes_ext; rw [extract_data]; simp
      rw [eT, e1, eN, hm, show ((4 : Nat) : Int) = 4 from rfl]
      exact firstB_just_bare g o s w (Lib.hid hs) hg h1 hm hz
    · have e1 : frameB s true = s.extract 4 (4 + (num s 0 - 4)) := by rw [eB, show 4 + (num s 0 - 4) = num s 0 by omega]
      have e2 : ((frameN s true : Nat) : Int) = 4 + (num s 0 : Int) - 4 := by rw [eN]; omega
      rw [eT, e2]
      exact firstB_ok_bare g o cap s _ w (Lib.hid hs) hg hcap h1 h2 h3 h4 hc (Lib.hid e1.symm)
  | false =>
    simp only [headN, Bool.false_eq_true, if_false, frameN, show 5 - 4 = 1 from rfl] at h1 h2 h3 h4
    have eN : frameN s false = 1 + num s 1 := by simp only [headN, Bool.false_eq_true, if_false, frameN, show 5 - 4 = 1 from rfl]
    have eB : frameB s false = s.extract 5 (1 + num s 1) := by simp only [frameB, headN, Bool.false_eq_true, if_false, frameN, show 5 - 4 = 1 from rfl]
    have hx : 0 < s.size := by omega
    have ht := head_byteB s (by omega) hx
    by_cases hc : cap = 5
    · subst hc
      have hz : s.size = 5 := by omega
      have hm : num s 1 = 4 := by omega
      have e1 : frameB s false = { data := #[] } := by
        rw [eB, hm]; apply bytes_ext; rw [extract_data]; simp
      rw [e1, eN, hm, show ((1 + 4 : Nat) : Int) = 5 from rfl]
      exact firstB_just _ g o s w (Lib.hid hs) hg h1 hx ht (h5 rfl) hm hz
    · have e1 : frameB s false = s.extract 5 (5 + (5 + num s 1 - 4 - 5)) := by rw [eB, show 5 + (5 + num s 1 - 4 - 5) = 1 + num s 1 by omega]
      have e2 : ((frameN s false : Nat) : Int) = 5 + (num s 1 : Int) - 4 := by rw [eN]; omega
      rw [e2]
      exact firstB_ok _ g o cap s _ w (Lib.hid hs) hg hcap h1 hx ht h2 h3 (h5 rfl) (by omega) hc (Lib.hid e1.symm)
end Go.Proofs.YtmofnkinclckoaaGreatDoor

namespace Go.Proofs.YtmofnkinclckoaaGreatDoor
open Go.Lib (extract_data)

theorem num_app (s x : ByteArray) (i : Nat) (h : i + 4 ≤ s.size) : num (s ++ x) i = num s i := by
  have hl := size_list s
  unfold num
  rw [append_list, List.drop_append_of_le_length (by omega), ← big4_take, List.take_append_of_le_length (by rw [List.length_drop]; omega), big4_take]

theorem headT_app (s x : ByteArray) (bare : Bool) (h : 0 < s.size) : headT (s ++ x) bare = headT s bare := by
  have hl := size_list s
  unfold headT
  rw [append_list]
  cases hs : s.data.toList with
  | nil => rw [hs] at hl; simp at hl; omega
  | cons a l => rfl

theorem headN_ge (bare : Bool) : 4 ≤ headN bare ∧ headN bare ≤ 5 := by unfold headN; split <;> omega

theorem frameN_app (s x : ByteArray) (bare : Bool) (h : headN bare ≤ s.size) : frameN (s ++ x) bare = frameN s bare := by
  have := headN_ge bare
  unfold frameN
  rw [num_app s x _ (by omega)]

/-- What is no want of bytes stays so when more bytes come. -/
theorem frameE_app (s x : ByteArray) (bare : Bool) (h : ¬ frameE s bare = 4) : frameE (s ++ x) bare = frameE s bare := by
  have hn := headN_ge bare
  by_cases h1 : s.size < headN bare
  · exact absurd (if_pos h1) h
  have e1 := num_app s x (headN bare - 4) (by omega)
  have e2 := headT_app s x bare (by omega)
  have e3 := frameN_app s x bare (by omega)
  have hz := append_size s x
  unfold frameE at h ⊢
  rw [e1, e2, e3, if_neg (show ¬ (s ++ x).size < headN bare by omega)]
  rw [if_neg h1] at h ⊢
  by_cases h2 : num s (headN bare - 4) < 4 ∨ (bare = false ∧ headT s bare = 0)
  · rw [if_pos h2, if_pos h2]
  rw [if_neg h2] at h ⊢
  rw [if_neg h2]
  by_cases h3 : 10004 < num s (headN bare - 4)
  · rw [if_pos h3, if_pos h3]
  rw [if_neg h3] at h ⊢
  rw [if_neg h3]
  by_cases h4 : s.size < frameN s bare
  · exact absurd (if_pos h4) h
  rw [if_neg h4, if_neg (by omega)]

theorem frameB_app (s x : ByteArray) (bare : Bool) (h : frameE s bare = 0) : frameB (s ++ x) bare = frameB s bare := by
  have g := good_frame h
  have hl := size_list s
  have e3 := frameN_app s x bare g.1
  unfold frameB
  rw [e3]
  apply bytes_ext
  rw [extract_data, extract_data, append_list, List.drop_append_of_le_length (by omega), List.take_append_of_le_length (by rw [List.length_drop]; omega)]

theorem rest_app (s x : ByteArray) (bare : Bool) (h : frameE s bare = 0) : (s ++ x).extract (frameN (s ++ x) bare) (s ++ x).size = s.extract (frameN s bare) s.size ++ x := by
  have g := good_frame h
  have hl := size_list s
  have hz := append_size s x
  have hx := size_list x
  rw [frameN_app s x bare g.1]
  apply bytes_ext
  rw [extract_data, append_list, append_list, extract_data, List.drop_append_of_le_length (by omega), List.take_of_length_le (by rw [List.length_append, List.length_drop]; omega), List.take_of_length_le (by rw [List.length_drop]; omega)]

/-- A reader that began with s (bare or not) has given got, and holds s' (bare or not). -/
inductive Steps : ByteArray → Bool → List (Nat × ByteArray) → ByteArray → Bool → Prop
  | none (s b) : Steps s b [] s b
  | one {s b got s' b'} (h : frameE s b = 0) (t : Steps (s.extract (frameN s b) s.size) false got s' b') : Steps s b ((headT s b, frameB s b) :: got) s' b'

theorem Steps.more {s : ByteArray} {b : Bool} {got : List (Nat × ByteArray)} {s' : ByteArray} {b' : Bool} (h : Steps s b got s' b') (x : ByteArray) : Steps (s ++ x) b got (s' ++ x) b' := by
  induction h with
  | none => exact .none _ _
  | @one s b got s' b' h t ih =>
    have g := good_frame h
    rw [← headT_app s x b (by have := headN_ge b; omega), ← frameB_app s x b h]
    refine .one (by rw [frameE_app s x b (by rw [h]; decide)]; exact h) ?_
    rw [rest_app s x b h]
    exact ih

theorem Steps.snoc {s : ByteArray} {b : Bool} {got : List (Nat × ByteArray)} {s' : ByteArray} {b' : Bool} (h : Steps s b got s' b') (hE : frameE s' b' = 0) :
    Steps s b (got ++ [(headT s' b', frameB s' b')]) (s'.extract (frameN s' b') s'.size) false := by
  induction h with
  | none => exact .one hE (.none _ _)
  | one h _ ih => exact .one h (ih hE)

/-- Two ways through one text that both can't go on have come to the same. -/
theorem Steps.same {s : ByteArray} {b : Bool} {got : List (Nat × ByteArray)} {s' : ByteArray} {b' : Bool} (h : Steps s b got s' b') (hE : ¬ frameE s' b' = 0) {got2 : List (Nat × ByteArray)} {s2 : ByteArray} {b2 : Bool} (h2 : Steps s b got2 s2 b2) (hE2 : ¬ frameE s2 b2 = 0) :
    got = got2 ∧ s' = s2 ∧ b' = b2 := by
  induction h generalizing got2 s2 b2 with
  | none s b =>
    cases h2 with
    | none => exact ⟨rfl, rfl, rfl⟩
    | one h _ => exact absurd h hE
  | one h _ ih =>
    cases h2 with
    | none => exact absurd h hE2
    | one h2 t2 =>
      obtain ⟨rfl, rfl, rfl⟩ := ih hE t2 hE2
      exact ⟨rfl, rfl, rfl⟩

/-- The flag: a reader is bare until it has given a frame. -/
theorem Steps.flag {s : ByteArray} {b : Bool} {got : List (Nat × ByteArray)} {s' : ByteArray} {b' : Bool} (h : Steps s b got s' b') : b' = (b && got.isEmpty) := by
  induction h with
  | none s b => cases b <;> rfl
  | one _ _ ih => rw [ih]; simp

/-- Each frame takes four bytes or more. -/
theorem Steps.size {s : ByteArray} {b : Bool} {got : List (Nat × ByteArray)} {s' : ByteArray} {b' : Bool} (h : Steps s b got s' b') : 4 * got.length + s'.size ≤ s.size := by
  induction h with
  | none => simp
  | @one s b got s' b' h t ih =>
    have g := good_frame h
    have hN : 4 ≤ frameN s b := by unfold frameN; omega
    have hz : (s.extract (frameN s b) s.size).size = s.size - frameN s b := by simp
    rw [List.length_cons]
    omega
end Go.Proofs.YtmofnkinclckoaaGreatDoor

namespace Go.Proofs.YtmofnkinclckoaaGreatDoor

/-- What is left of a body, and the texts and numbers so far. -/
structure RS where
  S : Bs
  T : List Bs
  N : List Int

def unsig : Bs → Nat
  | [] => 0
  | b :: l => b.toNat * 256 ^ l.length + unsig l
theorem unsig_lt : ∀ l : Bs, unsig l < 256 ^ l.length
  | [] => Nat.one_pos
  | b :: l => by
    have h1 := unsig_lt l
    have h2 : b.toNat < 256 := UInt8.toNat_lt b
    have h3 : b.toNat * 256 ^ l.length ≤ 255 * 256 ^ l.length := Nat.mul_le_mul_right _ (by omega)
    rw [unsig, List.length_cons, Nat.pow_succ]
    omega
theorem unsig_snoc : ∀ (l : Bs) (b : UInt8), unsig (l ++ [b]) = unsig l * 256 + b.toNat
  | [], b => by simp [unsig]
  | a :: l, b => by
    rw [List.cons_append, unsig, unsig_snoc l b, unsig, List.length_append, List.length_singleton, Nat.pow_succ, Nat.add_mul, Nat.mul_assoc, Nat.add_assoc]
theorem byteAt_toNat (n : Int) (i : Nat) : ((byteAt n i).toNat : Int) = (n / (256 ^ i : Nat)) % 256 := by
  unfold byteAt
  have h1 := Int.emod_nonneg (n / (256 ^ i : Nat)) (show (256 : Int) ≠ 0 by omega)
  have h2 := Int.emod_lt_of_pos (n / (256 ^ i : Nat)) (show (0 : Int) < 256 by omega)
  rw [UInt8.toNat_ofNat']
  have e : (n / (256 ^ i : Nat) % 256).toNat % 2 ^ 8 = (n / (256 ^ i : Nat) % 256).toNat := Nat.mod_eq_of_lt (by show _ < 256; omega)
  rw [e]
  omega
theorem unsig_be : ∀ (k : Nat) (n : Int), (unsig (be k n) : Int) = n % (256 ^ k : Nat)
  | 0, n => by simp [be, unsig, Int.emod_one]
  | k + 1, n => by
    rw [be, unsig, be_length, Int.natCast_add, Int.natCast_mul, byteAt_toNat, unsig_be k n, Nat.pow_succ]
    generalize hM : (256 ^ k : Nat) = M
    have hM0 : 0 < M := by rw [← hM]; exact Nat.pow_pos (by omega)
    have e1 := Int.emod_add_mul_ediv n (M : Int)
    have e2 := Int.emod_add_mul_ediv (n / (M : Int)) 256
    have r0 := Int.emod_nonneg n (show (M : Int) ≠ 0 by omega)
    have r1 := Int.emod_lt_of_pos n (show (0 : Int) < M by omega)
    have c0 := Int.emod_nonneg (n / (M : Int)) (show (256 : Int) ≠ 0 by omega)
    have c1 := Int.emod_lt_of_pos (n / (M : Int)) (show (0 : Int) < 256 by omega)
    generalize n / (M : Int) % 256 = c at *
    generalize n / (M : Int) / 256 = a at *
    generalize n / (M : Int) = q at *
    generalize n % (M : Int) = r at *
    have hc : c * (M : Int) ≤ 255 * M := Int.mul_le_mul_of_nonneg_right (by omega) (by omega)
    have hc0 : 0 ≤ c * (M : Int) := Int.mul_nonneg c0 (by omega)
    have e3 : n = (c * M + r) + ((M * 256 : Nat) : Int) * a := by
      rw [← e1, ← e2, Int.mul_add, Int.natCast_mul, Int.mul_assoc, Int.mul_comm c]
      show r + ((M : Int) * c + M * (256 * a)) = M * c + r + M * (256 * a)
      omega
    rw [e3, Int.add_mul_emod_self_left]
    exact (Int.emod_eq_of_lt (by omega) (by rw [Int.natCast_mul]; show _ < (M : Int) * 256; omega)).symm
theorem be_unsig : ∀ (l : Bs) (m : Int), be l.length (m * (256 ^ l.length : Nat) + unsig l) = l
  | [], _ => rfl
  | b :: l, m => by
    have hu := unsig_lt l
    have hb : b.toNat < 256 := UInt8.toNat_lt b
    have ih := be_unsig l (m * 256 + b.toNat)
    rw [List.length_cons, be, unsig, Nat.pow_succ]
    generalize hM : (256 ^ l.length : Nat) = M at *
    have hM0 : 0 < M := by rw [← hM]; exact Nat.pow_pos (by omega)
    have e : m * ((M * 256 : Nat) : Int) + ((b.toNat * M + unsig l : Nat) : Int) = (m * 256 + b.toNat) * M + unsig l := by
      rw [Int.natCast_add, Int.natCast_mul, Int.natCast_mul, Int.add_mul, Int.mul_assoc m 256, ← Int.mul_comm (M : Int) 256]
      show m * ((M : Int) * 256) + _ = _
      omega
    rw [e, ih]
    refine congrArg (· :: l) ?_
    apply UInt8.toNat_inj.1
    have := byteAt_toNat ((m * 256 + b.toNat) * (M : Int) + unsig l) l.length
    rw [hM, Int.add_comm, Int.add_mul_ediv_right _ _ (show (M : Int) ≠ 0 by omega), Int.ediv_eq_zero_of_lt (by omega) (by omega)] at this
    rw [← Int.add_comm (unsig l : Int)] 
    omega

/-- A number with its sign. -/
def sgnM (k : Nat) (n : Int) : Int := if ((256 ^ k : Nat) : Int) / 2 ≤ n then n - (256 ^ k : Nat) else n
theorem be_sgn (l : Bs) : be l.length (sgnM l.length (unsig l)) = l := by
  unfold sgnM
  split
  · have := be_unsig l (-1)
    rw [show (-1 : Int) * (256 ^ l.length : Nat) + unsig l = (unsig l : Int) - (256 ^ l.length : Nat) by omega] at this
    exact this
  · have := be_unsig l 0
    rw [Int.zero_mul, Int.zero_add] at this
    exact this
theorem sgn_be2 (n : Int) (h : -32768 ≤ n ∧ n ≤ 32767) : sgnM 2 (unsig (be 2 n)) = n := by
  rw [unsig_be]; unfold sgnM
  show (if (32768 : Int) ≤ n % 65536 then n % 65536 - 65536 else n % 65536) = n
  split <;> omega
theorem sgn_be4 (n : Int) (h : -2147483648 ≤ n ∧ n ≤ 2147483647) : sgnM 4 (unsig (be 4 n)) = n := by
  rw [unsig_be]; unfold sgnM
  show (if (2147483648 : Int) ≤ n % 4294967296 then n % 4294967296 - 4294967296 else n % 4294967296) = n
  split <;> omega
theorem unsig_be1 (n : Int) (h : 0 ≤ n ∧ n ≤ 255) : (unsig (be 1 n) : Int) = n := by
  rw [unsig_be]
  show n % 256 = n
  omega
theorem sgn2_range (l : Bs) (h : l.length = 2) : -32768 ≤ sgnM 2 (unsig l) ∧ sgnM 2 (unsig l) ≤ 32767 := by
  have h2 : (unsig l : Int) < 65536 := by have := unsig_lt l; rw [h] at this; exact Int.ofNat_lt.2 this
  unfold sgnM
  show -32768 ≤ (if (32768 : Int) ≤ unsig l then (unsig l : Int) - 65536 else unsig l) ∧ _
  split <;> constructor <;> (first | omega | (show (if (32768 : Int) ≤ unsig l then (unsig l : Int) - 65536 else unsig l) ≤ 32767; split <;> omega))
theorem sgn4_range (l : Bs) (h : l.length = 4) : -2147483648 ≤ sgnM 4 (unsig l) ∧ sgnM 4 (unsig l) ≤ 2147483647 := by
  have h2 : (unsig l : Int) < 4294967296 := by have := unsig_lt l; rw [h] at this; exact Int.ofNat_lt.2 this
  unfold sgnM
  show -2147483648 ≤ (if (2147483648 : Int) ≤ unsig l then (unsig l : Int) - 4294967296 else unsig l) ∧ (if (2147483648 : Int) ≤ unsig l then (unsig l : Int) - 4294967296 else unsig l) ≤ 2147483647
  split <;> constructor <;> omega
end Go.Proofs.YtmofnkinclckoaaGreatDoor
