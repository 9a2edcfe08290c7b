/- The calls of MsgNumbers. -/
import Derived.Test.YtfdffiphlpeegaaDoorDCard
import Derived.Test.YtfdffiphlpeegaaDoorDSum
import Derived.Test.YtfdffiphlpeegaaDoorDEncX
import Derived.Test.YtfdffiphlpeegaaDoorDRM
namespace Go.Proofs.YtfdffiphlpeegaaDoor
open Go.RowKit Go.Lib Go.WideShapes Go.ChangeShapes Go.ChangeAt Go.Joins

def four (a b : Int) : Bool := decide (-2147483648 ≤ a) && decide (a ≤ 2147483647) && decide (-2147483648 ≤ b) && decide (b ≤ 2147483647)
def two (c : Int) : Bool := decide (-32768 ≤ c) && decide (c ≤ 32767)
def one (c : Int) : Bool := decide (0 ≤ c) && decide (c ≤ 255)
theorem number_bad {l m n : Int} (k : Nat) (h : ¬ (l ≤ n ∧ n ≤ m)) (T : List Bs) (N : List Int) (B : Bs) : wNumber l m k ⟨T, n :: N, B⟩ = none := by
  unfold wNumber wNum
  simp only
  rw [if_neg h]; rfl
theorem long_in {n : Int} (h : -2147483648 ≤ n ∧ n ≤ 2147483647) (T : List Bs) (N : List Int) (B : Bs) : wLong ⟨T, n :: N, B⟩ = some ⟨T, N, B ++ be 4 n⟩ := by
  unfold wLong; rw [number_in 4 h]; rfl
theorem long_bad {n : Int} (h : ¬ (-2147483648 ≤ n ∧ n ≤ 2147483647)) (T : List Bs) (N : List Int) (B : Bs) : wLong ⟨T, n :: N, B⟩ = none := by
  unfold wLong; rw [number_bad 4 h]; rfl
theorem short_in {n : Int} (h : -32768 ≤ n ∧ n ≤ 32767) (T : List Bs) (N : List Int) (B : Bs) : wShort ⟨T, n :: N, B⟩ = some ⟨T, N, B ++ be 2 n⟩ := by
  unfold wShort; rw [number_in 2 h]; rfl
theorem short_bad {n : Int} (h : ¬ (-32768 ≤ n ∧ n ≤ 32767)) (T : List Bs) (N : List Int) (B : Bs) : wShort ⟨T, n :: N, B⟩ = none := by
  unfold wShort; rw [number_bad 2 h]; rfl
theorem four_iff {a b : Int} : four a b = true ↔ (-2147483648 ≤ a ∧ a ≤ 2147483647) ∧ (-2147483648 ≤ b ∧ b ≤ 2147483647) := by
  unfold four
  simp only [Bool.and_eq_true, decide_eq_true_eq]
  omega
theorem two_iff {c : Int} : two c = true ↔ -32768 ≤ c ∧ c ≤ 32767 := by
  unfold two
  simp only [Bool.and_eq_true, decide_eq_true_eq]
theorem one_iff {c : Int} : one c = true ↔ 0 ≤ c ∧ c ≤ 255 := by
  unfold one
  simp only [Bool.and_eq_true, decide_eq_true_eq]
theorem written_K (a b : Int) : written true 75 [] [a, b] = if four a b = true then some (be 4 a ++ be 4 b) else none := by
  show ((wLong ⟨[], [a, b], []⟩).bind (wAll [105])).bind wDone = _
  by_cases ha : -2147483648 ≤ a ∧ a ≤ 2147483647
  · rw [long_in ha]
    show ((wLong ⟨[], [b], [] ++ be 4 a⟩).bind (wAll [])).bind wDone = _
    by_cases hb : -2147483648 ≤ b ∧ b ≤ 2147483647
    · rw [long_in hb, if_pos (four_iff.2 ⟨ha, hb⟩)]; rfl
    · rw [long_bad hb, if_neg (fun h => hb (four_iff.1 h).2)]; rfl
  · rw [long_bad ha, if_neg (fun h => ha (four_iff.1 h).1)]; rfl
theorem written_Z (c : Int) : written true 90 [] [c] = if one c = true then some (be 1 c) else none := by
  show ((wByte ⟨[], [c], []⟩).bind (wAll [])).bind wDone = _
  unfold wByte
  by_cases hc : 0 ≤ c ∧ c ≤ 255
  · rw [number_in 1 hc, if_pos (one_iff.2 hc)]; rfl
  · rw [number_bad 1 hc, if_neg (fun h => hc (one_iff.1 h))]; rfl
theorem written_B (c : Int) : written false 66 [[], []] [1, c, 0, 0] = if two c = true then some ([0] ++ [0] ++ (be 2 1 ++ be 2 c) ++ be 2 0 ++ be 2 0) else none := by
  have h0 : written false 66 [[], []] [1, c, 0, 0] = ((wCounted wShort ⟨[], [1, c, 0, 0], [0] ++ [0]⟩).bind (wAll [118, 99])).bind wDone := rfl
  rw [h0]
  unfold wCounted
  rw [number_in 2 (by decide)]
  simp only [Option.bind_some]
  show (((wShort ⟨[], [c, 0, 0], [0] ++ [0] ++ be 2 1⟩).bind (rep 0 wShort)).bind (wAll [118, 99])).bind wDone = _
  by_cases hc : -32768 ≤ c ∧ c ≤ 32767
  · rw [short_in hc, if_pos (two_iff.2 hc)]
    show ((wCounted wValue ⟨[], [0, 0], _⟩).bind (wAll [99])).bind wDone = _
    unfold wCounted
    rw [number_in 2 (by decide)]
    show ((wCounted wShort ⟨[], [0], _⟩).bind (wAll [])).bind wDone = _
    unfold wCounted
    rw [number_in 2 (by decide)]
    show some _ = _
    simp
  · rw [short_bad hc, if_neg (fun h => hc (two_iff.1 h))]; rfl
theorem encV_ok (c : UInt8) (B : Bs) (h : B.length ≤ 10000) : encV c (some B) = .tuple #[.agg #[.int .u8 (c.toNat : Nat), .string ⟨B.toArray⟩], .int .i64 0] := by
  have hE : encE (some B) = 0 := if_neg (by omega)
  unfold encV
  rw [hE]; rfl
theorem encV_no (c : UInt8) : encV c none = .tuple #[.agg #[.int .u8 0, .string { data := #[] }], .int .i64 1] := rfl
theorem numsIn_new {w : World} {g : Nat} {N : List Int} (hg : g < w.heap.size) (hl : N.length ≤ 1000) (hc : ∀ i n, N[i]? = some n → w.cell? ⟨g, i, none⟩ = some (.int .i64 n)) : NumsIn w (.slice (some ⟨g, 0, none⟩) N.length N.length) N :=
  ⟨_, _, _, rfl, rfl, Nat.le_refl _, by omega, .inr ⟨g, 0, rfl, hg, fun i t ht => by rw [Nat.zero_add]; exact hc i t ht⟩⟩
theorem textsIn_new {w : World} {g : Nat} {T : List Bs} (hg : g < w.heap.size) (hl : T.length ≤ 1000) (hc : ∀ i t, T[i]? = some t → w.cell? ⟨g, i, none⟩ = some (.string ⟨t.toArray⟩)) : TextsIn w (.slice (some ⟨g, 0, none⟩) T.length T.length) T :=
  ⟨_, _, _, rfl, rfl, Nat.le_refl _, by omega, .inr ⟨g, 0, rfl, hg, fun i t ht => by rw [Nat.zero_add]; exact hc i t ht⟩⟩
theorem texts_nil (w : World) : TextsIn w (.slice none 0 0) [] := ⟨none, 0, 0, rfl, rfl, Nat.le_refl _, by omega, .inl rfl⟩

theorem enc_K (w : World) (a b : Int) : Calls Tryd.prog 15 #[.bool true, .agg #[.int .u8 75, .slice none 0 0, .slice (some ⟨w.heap.size, 0, none⟩) 2 2]] ((w.alloc (.cells #[.int .i64 a, .int .i64 b] 3)).alloc (.cells #[.int .u8 75, .slice none 0 0, .slice (some ⟨w.heap.size, 0, none⟩) 2 2] 28)) fun e w' => e = .returned (encV 75 (if four a b = true then some (be 4 a ++ be 4 b) else none)) ∧ Below w.heap.size w w' := by
  have h := encode_any ((w.alloc (.cells #[.int .i64 a, .int .i64 b] 3)).alloc (.cells #[.int .u8 75, .slice none 0 0, .slice (some ⟨w.heap.size, 0, none⟩) 2 2] 28)) true 75 [] [a, b] (.slice none 0 0) (.slice (some ⟨w.heap.size, 0, none⟩) 2 2) (texts_nil _)
    (numsIn_new (g := w.heap.size) (N := [a, b]) (by simp; omega) (by simp) (by intro i n hi; match i, hi with | 0, hi => (obtain rfl := Option.some.inj hi; simp [go_sem]) | 1, hi => (obtain rfl := Option.some.inj hi; simp [go_sem]))) (by show 8 ≤ _; decide)
  rw [written_K] at h
  refine Calls.mono h ?_
  rintro e w' ⟨he, hb⟩
  exact ⟨he, (((Below.refl w.heap.size w).alloc (Nat.le_refl _) _).alloc (by simp) _).trans (hb.mono (by simp; omega))⟩
theorem enc_Z (w : World) (c : Int) : Calls Tryd.prog 15 #[.bool true, .agg #[.int .u8 90, .slice none 0 0, .slice (some ⟨w.heap.size, 0, none⟩) 1 1]] ((w.alloc (.cells #[.int .i64 c] 3)).alloc (.cells #[.int .u8 90, .slice none 0 0, .slice (some ⟨w.heap.size, 0, none⟩) 1 1] 28)) fun e w' => e = .returned (encV 90 (if one c = true then some (be 1 c) else none)) ∧ Below w.heap.size w w' := by
  have h := encode_any ((w.alloc (.cells #[.int .i64 c] 3)).alloc (.cells #[.int .u8 90, .slice none 0 0, .slice (some ⟨w.heap.size, 0, none⟩) 1 1] 28)) true 90 [] [c] (.slice none 0 0) (.slice (some ⟨w.heap.size, 0, none⟩) 1 1) (texts_nil _)
    (numsIn_new (g := w.heap.size) (N := [c]) (by simp; omega) (by simp) (by intro i n hi; match i, hi with | 0, hi => (obtain rfl := Option.some.inj hi; simp [go_sem]))) (by show 4 ≤ _; decide)
  rw [written_Z] at h
  refine Calls.mono h ?_
  rintro e w' ⟨he, hb⟩
  exact ⟨he, (((Below.refl w.heap.size w).alloc (Nat.le_refl _) _).alloc (by simp) _).trans (hb.mono (by simp; omega))⟩
def bodyB (c : Int) : Bs := [0] ++ [0] ++ (be 2 1 ++ be 2 c) ++ be 2 0 ++ be 2 0
theorem enc_B (w : World) (c : Int) : Calls Tryd.prog 15 #[.bool false, .agg #[.int .u8 66, .slice (some ⟨w.heap.size, 0, none⟩) 2 2, .slice (some ⟨w.heap.size + 1, 0, none⟩) 4 4]] (((w.alloc (.cells #[.string { data := #[] }, .string { data := #[] }] 9)).alloc (.cells #[.int .i64 1, .int .i64 c, .int .i64 0, .int .i64 0] 3)).alloc (.cells #[.int .u8 66, .slice (some ⟨w.heap.size, 0, none⟩) 2 2, .slice (some ⟨w.heap.size + 1, 0, none⟩) 4 4] 28)) fun e w' => e = .returned (encV 66 (if two c = true then some (bodyB c) else none)) ∧ Below w.heap.size w w' := by
  have h := encode_any (((w.alloc (.cells #[.string { data := #[] }, .string { data := #[] }] 9)).alloc (.cells #[.int .i64 1, .int .i64 c, .int .i64 0, .int .i64 0] 3)).alloc (.cells #[.int .u8 66, .slice (some ⟨w.heap.size, 0, none⟩) 2 2, .slice (some ⟨w.heap.size + 1, 0, none⟩) 4 4] 28)) false 66 [[], []] [1, c, 0, 0] (.slice (some ⟨w.heap.size, 0, none⟩) 2 2) (.slice (some ⟨w.heap.size + 1, 0, none⟩) 4 4)
    (textsIn_new (g := w.heap.size) (T := [[], []]) (by simp; omega) (by decide) (by intro i n hi; match i, hi with | 0, hi => (obtain rfl := Option.some.inj hi; simp [go_sem]) | 1, hi => (obtain rfl := Option.some.inj hi; simp [go_sem])))
    (numsIn_new (g := w.heap.size + 1) (N := [1, c, 0, 0]) (by simp) (by simp) (by intro i n hi; match i, hi with | 0, hi => (obtain rfl := Option.some.inj hi; simp [go_sem]) | 1, hi => (obtain rfl := Option.some.inj hi; simp [go_sem]) | 2, hi => (obtain rfl := Option.some.inj hi; simp [go_sem]) | 3, hi => (obtain rfl := Option.some.inj hi; simp [go_sem]))) (by show 54 ≤ _; decide)
  rw [written_B] at h
  refine Calls.mono h ?_
  rintro e w' ⟨he, hb⟩
  exact ⟨he, ((((Below.refl w.heap.size w).alloc (Nat.le_refl _) _).alloc (by simp) _).alloc (by simp; omega) _).trans (hb.mono (by simp; omega))⟩
theorem bodyB_len (c : Int) : (bodyB c).length = 10 := by unfold bodyB; simp [be_length]
theorem enc_K_ok (w : World) {a b : Int} (h : four a b = true) : Calls Tryd.prog 15 #[.bool true, .agg #[.int .u8 75, .slice none 0 0, .slice (some ⟨w.heap.size, 0, none⟩) 2 2]] ((w.alloc (.cells #[.int .i64 a, .int .i64 b] 3)).alloc (.cells #[.int .u8 75, .slice none 0 0, .slice (some ⟨w.heap.size, 0, none⟩) 2 2] 28)) fun e w' => e = .returned (.tuple #[.agg #[.int .u8 75, .string ⟨(be 4 a ++ be 4 b).toArray⟩], .int .i64 0]) ∧ Below w.heap.size w w' := by
  have h1 := enc_K w a b
  rw [if_pos h, encV_ok _ _ (by rw [List.length_append, be_length, be_length]; decide)] at h1
  exact h1
theorem enc_K_no (w : World) {a b : Int} (h : four a b = false) : Calls Tryd.prog 15 #[.bool true, .agg #[.int .u8 75, .slice none 0 0, .slice (some ⟨w.heap.size, 0, none⟩) 2 2]] ((w.alloc (.cells #[.int .i64 a, .int .i64 b] 3)).alloc (.cells #[.int .u8 75, .slice none 0 0, .slice (some ⟨w.heap.size, 0, none⟩) 2 2] 28)) fun e w' => e = .returned (.tuple #[.agg #[.int .u8 0, .string { data := #[] }], .int .i64 1]) ∧ Below w.heap.size w w' := by
  have h1 := enc_K w a b
  rw [if_neg (by rw [h]; decide), encV_no] at h1
  exact h1
theorem enc_Z_ok (w : World) {c : Int} (h : one c = true) : Calls Tryd.prog 15 #[.bool true, .agg #[.int .u8 90, .slice none 0 0, .slice (some ⟨w.heap.size, 0, none⟩) 1 1]] ((w.alloc (.cells #[.int .i64 c] 3)).alloc (.cells #[.int .u8 90, .slice none 0 0, .slice (some ⟨w.heap.size, 0, none⟩) 1 1] 28)) fun e w' => e = .returned (.tuple #[.agg #[.int .u8 90, .string ⟨(be 1 c).toArray⟩], .int .i64 0]) ∧ Below w.heap.size w w' := by
  have h1 := enc_Z w c
  rw [if_pos h, encV_ok _ _ (by rw [be_length]; decide)] at h1
  exact h1
theorem enc_Z_no (w : World) {c : Int} (h : one c = false) : Calls Tryd.prog 15 #[.bool true, .agg #[.int .u8 90, .slice none 0 0, .slice (some ⟨w.heap.size, 0, none⟩) 1 1]] ((w.alloc (.cells #[.int .i64 c] 3)).alloc (.cells #[.int .u8 90, .slice none 0 0, .slice (some ⟨w.heap.size, 0, none⟩) 1 1] 28)) fun e w' => e = .returned (.tuple #[.agg #[.int .u8 0, .string { data := #[] }], .int .i64 1]) ∧ Below w.heap.size w w' := by
  have h1 := enc_Z w c
  rw [if_neg (by rw [h]; decide), encV_no] at h1
  exact h1
theorem enc_B_ok (w : World) {c : Int} (h : two c = true) : Calls Tryd.prog 15 #[.bool false, .agg #[.int .u8 66, .slice (some ⟨w.heap.size, 0, none⟩) 2 2, .slice (some ⟨w.heap.size + 1, 0, none⟩) 4 4]] (((w.alloc (.cells #[.string { data := #[] }, .string { data := #[] }] 9)).alloc (.cells #[.int .i64 1, .int .i64 c, .int .i64 0, .int .i64 0] 3)).alloc (.cells #[.int .u8 66, .slice (some ⟨w.heap.size, 0, none⟩) 2 2, .slice (some ⟨w.heap.size + 1, 0, none⟩) 4 4] 28)) fun e w' => e = .returned (.tuple #[.agg #[.int .u8 66, .string ⟨(bodyB c).toArray⟩], .int .i64 0]) ∧ Below w.heap.size w w' := by
  have h1 := enc_B w c
  rw [if_pos h, encV_ok _ _ (by rw [bodyB_len]; decide)] at h1
  exact h1
theorem enc_B_no (w : World) {c : Int} (h : two c = false) : Calls Tryd.prog 15 #[.bool false, .agg #[.int .u8 66, .slice (some ⟨w.heap.size, 0, none⟩) 2 2, .slice (some ⟨w.heap.size + 1, 0, none⟩) 4 4]] (((w.alloc (.cells #[.string { data := #[] }, .string { data := #[] }] 9)).alloc (.cells #[.int .i64 1, .int .i64 c, .int .i64 0, .int .i64 0] 3)).alloc (.cells #[.int .u8 66, .slice (some ⟨w.heap.size, 0, none⟩) 2 2, .slice (some ⟨w.heap.size + 1, 0, none⟩) 4 4] 28)) fun e w' => e = .returned (.tuple #[.agg #[.int .u8 0, .string { data := #[] }], .int .i64 1]) ∧ Below w.heap.size w w' := by
  have h1 := enc_B w c
  rw [if_neg (by rw [h]; decide), encV_no] at h1
  exact h1
theorem dec_K (w : World) {a b : Int} (h : four a b = true) : Calls Tryd.prog 9 #[.bool true, .agg #[.int .u8 75, .string ⟨(be 4 a ++ be 4 b).toArray⟩]] w (MsgOut w 75 2 (some ([], [a, b]))) := by
  have h1 := decode_any w true 75 (be 4 a ++ be 4 b) (by rw [List.length_append, be_length, be_length]; decide)
  have h2 : readD true 75 (be 4 a ++ be 4 b) = some ([], [a, b]) := by
    unfold readD
    rw [if_neg (by rw [List.length_append, be_length, be_length]; decide)]
    exact read_of_written (by rw [written_K, if_pos h])
  rw [h2] at h1
  exact h1
theorem dec_B (w : World) {c : Int} (h : two c = true) : Calls Tryd.prog 9 #[.bool false, .agg #[.int .u8 66, .string ⟨(bodyB c).toArray⟩]] w (MsgOut w 66 2 (some ([[], []], [1, c, 0, 0]))) := by
  have h1 := decode_any w false 66 (bodyB c) (by rw [bodyB_len]; decide)
  have h2 : readD false 66 (bodyB c) = some ([[], []], [1, c, 0, 0]) := by
    unfold readD
    rw [if_neg (by rw [bodyB_len]; decide)]
    exact read_of_written (by rw [written_B, if_pos h]; rfl)
  rw [h2] at h1
  exact h1
theorem cell_past {w : World} {o : Obj} {g i : Nat} {v : Value} (h : w.cell? ⟨g, i, none⟩ = some v) : (w.alloc o).cell? ⟨g, i, none⟩ = some v :=
  (World.cell?_alloc_past _ _ _ (World.block_lt_of_cell? w ⟨g, i, none⟩ h)).trans h
theorem own_cell {w : World} {base n : Nat} {v : Value} {N : List Int} (h : w.ownsRow base 3 1 v n (ncells N)) (hn : N.length = n) (h0 : 0 < n) : ∃ g c, v = .slice (some ⟨g, 0, none⟩) n c ∧ n ≤ c ∧ c ≤ 9223372036854775807 ∧ ∀ i x, N[i]? = some x → w.cell? ⟨g, i, none⟩ = some (.int .i64 x) := by
  subst hn
  have hI := own_numsIn h
  rcases h.2 with ⟨_, h1⟩ | ⟨g, cap, cur, rfl, hb, hg, hc1, hc2, _⟩
  · omega
  · obtain ⟨a, n', c', hv, _, _, _, hcell⟩ := hI
    simp only [Value.slice.injEq] at hv
    obtain ⟨rfl, rfl, rfl⟩ := hv
    rcases hcell with h1 | ⟨g', off, ha, _, hcell⟩
    · rw [h1] at h0; cases h0
    · simp only [Option.some.injEq, Addr.mk.injEq, and_true] at ha
      obtain ⟨rfl, rfl⟩ := ha
      refine ⟨g, cap, rfl, hc1, by unfold maxLen at hc2; omega, fun i x hx => ?_⟩
      have := hcell i x hx
      rwa [Nat.zero_add] at this
end Go.Proofs.YtfdffiphlpeegaaDoor
