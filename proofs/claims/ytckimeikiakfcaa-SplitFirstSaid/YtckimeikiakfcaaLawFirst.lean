/- A statement begins with words: SplitFirst answers true, and leaves what was there as it was. -/
import Derived.Test.YtckimeikiakfcaaShown4
import Derived.ChangeSlices
import Derived.ChangeAlike
import Derived.SizedLaws
import Derived.HandedShaped
import Derived.OpenShut
namespace Go.Proofs.Ytckimeikiakfcaa
open Go.RowKit Go.Lib Go.WideShapes Go.ChangeShapes Go.ChangeAt Go.Joins

/-- The integers that lie from place off of block b on. -/
def IntsAt (w : World) (b off n : Nat) (c : Nat → Int) : Prop := ∀ i, i < n → w.cell? ⟨b, off + i, none⟩ = some (.int .i64 (c i))

/-- An argument that is a slice of integers, opened to its cells. -/
theorem open_row {H : Type} {enc : TypeId × Value → H} {w : World} {a : Option Addr} {len cap : Nat} {d : DataW H} {p : List MemPlace} (h : DataW.Trod enc Try.prog w 0 (fun _ => true) true 34 (.slice a len cap) d p) :
    ∃ c : Nat → Int, (∀ i, i < len → -9223372036854775808 ≤ c i ∧ c i ≤ 9223372036854775807) ∧ (len = 0 ∨ ∃ b off, a = some ⟨b, off, none⟩ ∧ b < w.heap.size ∧ IntsAt w b off len c) := by
  obtain ⟨fuel, hf⟩ := h
  have hf' : DataW.trod enc Try.prog w 0 (fun _ => true) true fuel 34 [.slice a len cap] = some (d, p) := by simpa [Value.cells] using hf
  rcases open_ints Try.underlying34 Try.underlying3 (by kernel_rfl) hf' with ⟨h0, _⟩ | ⟨a', len', cap', zs, hcs, _, hl, _, hz, _, hcell, hw⟩
  · refine ⟨fun _ => 0, fun _ _ => by simp, .inl ?_⟩
    simp at h0; exact h0.2.1
  · simp only [List.cons.injEq, Value.slice.injEq, and_true] at hcs
    obtain ⟨rfl, rfl, rfl⟩ := hcs
    have hlz : len ≤ zs.length := by rw [hz]; simp; exact hl
    refine ⟨fun i => zs.getD i 0, fun i hi => int_range (hw _ ?_), ?_⟩
    · have e : zs.getD i 0 = zs[i]'(by omega) := by simp [List.getD, List.getElem?_eq_getElem (show i < zs.length by omega)]
      show zs.getD i 0 ∈ zs
      rw [e]; exact List.getElem_mem _
    · by_cases h0 : len = 0
      · exact .inl h0
      right
      obtain ⟨b, off, rfl, hc⟩ := ints_at hcell (by omega)
      exact ⟨b, off, rfl, World.block_lt_of_cell? w (⟨b, off + 0, none⟩ : Addr) (hc 0 (by omega)), fun i hi => hc i (by omega)⟩

theorem size_list (s : ByteArray) : s.data.toList.length = s.size := by simp

theorem bytes_append (a b : ByteArray) : bytes (a ++ b) = bytes a ++ bytes b := by simp [bytes]

theorem splitT_mem : ∀ (f : Nat) (l t : List Tok), t ∈ splitT f l → t.length ≤ l.length := by
  intro f
  induction f with
  | zero => intro l t h; cases h
  | succ f ih =>
    intro l t h
    rw [splitT] at h
    by_cases h0 : l = []
    · rw [if_pos h0] at h; cases h
    · rw [if_neg h0] at h
      rcases List.mem_append.1 h with h | h
      · by_cases h1 : semiAt l = 0
        · rw [if_pos h1] at h; cases h
        · rw [if_neg h1, List.mem_singleton] at h
          rw [h, List.length_take]; omega
      · have := ih _ _ h
        rw [List.length_drop] at this; omega
theorem splits_mem {l t : List Tok} (h : t ∈ splits l) : t.length ≤ l.length := splitT_mem _ _ _ h

theorem info_string : (Try.prog.info? 9).map (fun i => (i.zero, i.size, i.bytes)) = some (some (.string { data := #[] }), 1, 16) := by kernel_rfl

def strC (W : List Bs) : List Value := W.map fun x => .string ⟨x.toArray⟩
theorem strC_snoc (W : List Bs) (x : Bs) : strC (W ++ [x]) = strC W ++ [.string ⟨x.toArray⟩] := by simp [strC]
theorem strC_length (W : List Bs) : (strC W).length = W.length := by simp [strC]

theorem own_words {w : World} {base n cap : Nat} {a : Option Addr} {W : List Bs} (h : w.ownsRow base 9 1 (.slice a n cap) n (strC W)) (hl : W.length = n) : WordsAt w a W := by
  intro i x hx
  have hi : i < W.length := (List.getElem?_eq_some_iff.1 hx).1
  rcases h.2 with ⟨_, hz⟩ | ⟨g, c, cur, hv, _⟩
  · omega
  · simp only [Value.slice.injEq] at hv
    obtain ⟨rfl, _, rfl⟩ := hv
    have := h.cells (g := g) rfl i (.string ⟨x.toArray⟩) (by simp [strC, hx])
    rw [add_plain, Nat.zero_add] at this
    exact ⟨g, rfl, (h.lt g rfl).2, this⟩

/-- An append whose outcome is known. -/
theorem wpList_append_eq {P : Program} {w : World} {ops : Array Oper} {rest : List Oper} {o : Oper} {a : Act} {Q : Exit → Act → World → Prop} (hgd : o.guard = none) (s x : Operand) (t : TypeId)
    (ho : o.op = .call { callee := .builtin .append, args := #[s, x], argTypes := #[t, t] }) (vs vx : Value) (hs : a.eval s = vs) (hx : a.eval x = vx) (v' : Value) (w' : World)
    (hrun : (Builtin.append_ #[t, t] o.type #[vs, vx]).run P w = .ok v' w') (h : wpList P ops Q rest (a.put o.dst v') w') : wpList P ops Q (o :: rest) a w :=
  wpList_plain hgd fun _ hK => by
    unfold Oper.wp execOp
    simp only [ho, resolve, invoke, builtin, Sem.run_bind, Sem.run_pure, Result.andThen_ok, List.map_toArray, List.map_cons, List.map_nil, hs, hx, hrun]
    exact hK _ _ h

/-- append([]string{}, words...) -/
theorem words_copy {w : World} {B k vc : Nat} {va : Option Addr} {W : List Bs} (h : w.ownsRow B 9 1 (.slice va k vc) k (strC W)) (hl : W.length = k) (hk : k ≤ 1000) :
    ∃ v' w', (Builtin.append_ #[30, 30] 30 #[.slice (some ⟨w.heap.size, 0, none⟩) 0 0, .slice va k vc]).run Try.prog (w.alloc (.cells #[] 9)) = .ok v' w' ∧ w'.ownsRow w.heap.size 9 1 v' k (strC W) ∧ Below w.heap.size w w' := by
  obtain ⟨i0, hi, y0, y1, y2⟩ := info_parts info_string
  have h0 : (w.alloc (.cells #[] 9)).ownsRow w.heap.size 9 1 (.slice (some ⟨w.heap.size, 0, none⟩) 0 0) 0 [] := World.ownsRow_lit w #[] 0 (Nat.le_refl _) (by decide) rfl
  have hb : Below w.heap.size w (w.alloc (.cells #[] 9)) := (Below.refl _ w).alloc (Nat.le_refl _) _
  have hr := h
  rcases h.2 with ⟨hv, rfl⟩ | ⟨g, cap, cur, hv, _, hg, _⟩
  · cases hv
    obtain rfl : W = [] := List.length_eq_zero_iff.1 hl
    exact ⟨_, _, run_append_owned_none _ _ _ _ _ i0 _ Try.underlying30 hi _ _ _ h0, h0, hb⟩
  · cases hv
    have hgl : g < w.heap.size := (Array.getElem?_eq_some_iff.1 hg).1
    obtain ⟨v', w', hrun, h2, h3, _⟩ := run_append_at (P := Try.prog) (w.alloc (.cells #[] 9)) w.heap.size 30 30 9 i0 (.string { data := #[] }) 1 16 Try.underlying30 hi y0 y1 y2 rfl (by decide) _ 0 [] h0 ⟨g, 0, none⟩ k vc (strC W) (by rw [strC_length, hl]; omega) (fun j u hu => (hb.cell (p := ((⟨g, 0, none⟩ : Addr).add j)) (by rw [add_plain]; exact hgl)).trans (hr.cells (g := g) rfl j u hu)) (by intro u hu; obtain ⟨x, _, rfl⟩ := List.mem_map.1 hu; rfl) (by unfold maxLen; omega) (by omega) (by simp)
    refine ⟨v', w', hrun, by simpa using h2, below_grown hb (by simp) h3 (fun q hq => ?_)⟩
    obtain rfl : w.heap.size = q := by simpa [Value.ownBlock] using hq
    exact Nat.le_refl _

def wl : Nat → ByteArray
  | 0 => { data := #[115, 101, 116] } | 1 => { data := #[108, 111, 99, 97, 108] } | 2 => { data := #[98, 101, 103, 105, 110] } | _ => { data := #[120] }
theorem wl_mem (i : Nat) (h : i < 4) : bytes (wl i) ∈ wordList ∧ (wl i).size ≤ 5 := by
  rcases (by omega : i = 0 ∨ i = 1 ∨ i = 2 ∨ i = 3) with rfl | rfl | rfl | rfl <;> exact ⟨by decide, by decide⟩
theorem wl_cell (w : World) (i : Nat) (h : i < 4) (u : TypeId) : (w.alloc (.cells #[.string { data := #[115, 101, 116] }, .string { data := #[108, 111, 99, 97, 108] }, .string { data := #[98, 101, 103, 105, 110] }, .string { data := #[120] }] u)).cell? ⟨w.heap.size, i, none⟩ = some (.string (wl i)) := by
  rcases (by omega : i = 0 ∨ i = 1 ∨ i = 2 ∨ i = 3) with rfl | rfl | rfl | rfl <;> exact World.cell?_alloc_new _ _ _ _

theorem bytes_str (x : ByteArray) : (⟨(bytes x).toArray⟩ : ByteArray) = x := by simp [bytes]

theorem wordsText_snoc (W : List Bs) (x : Bs) : wordsText (W ++ [x]) = wordsText W ++ x ++ [32, 47, 42, 32, 59, 32, 42, 47, 10] := by simp [wordsText, between]

/-- What the first statement begins with. -/
theorem first_begins {W : List Bs} (hW : ∀ x ∈ W, x ∈ wordList) {more : Bs} {T : List Tok} {xs : List (List Tok)} {t : List Tok} (hT : tokens (wordsText W ++ more) = some T) (hx : t :: xs = splits T) : begins t W = true := by
  by_cases h0 : W = []
  · subst h0; cases t <;> rfl
  · obtain ⟨A, k, hA, ht⟩ := tokens_words W hW more
    rw [ht] at hT
    cases hm : tokens more with
    | none => rw [hm] at hT; cases hT
    | some R =>
      rw [hm] at hT
      cases hT
      obtain ⟨r, hr⟩ := first_spell (B := R.map (moved k)) hA h0
      rw [hr] at hx
      cases hx
      exact begins_spell W A _ hA

set_option maxRecDepth 100000 in
set_option maxHeartbeats 8000000 in
theorem first4_walk (l0 : Option Addr) (len cap : Nat) (c : Nat → Int) (more : ByteArray) (m : Int) (w : World) (hlen : len ≤ 10) (hmo : more.size ≤ 500) (hC : len = 0 ∨ ∃ b off, l0 = some ⟨b, off, none⟩ ∧ b < w.heap.size ∧ IntsAt w b off len c) (hcr : ∀ i, i < len → -9223372036854775808 ≤ c i ∧ c i ≤ 9223372036854775807) (hm : w.cell? ⟨0, 0, none⟩ = some (.int .i64 m)) :
    Calls Try.prog 6 #[.slice l0 len cap, .string more] w fun e w' => e = .returned (.bool true) ∧ Below w.heap.size w w' := by
  obtain ⟨i0, hi, y0, y1, y2⟩ := info_parts info_string
  have HC := Lib.hid hC; have HCR := Lib.hid hcr
  have HM := Lib.hid hm
  have HW0 := Lib.hid (World.block_lt_of_cell? w ⟨0, 0, none⟩ hm)
  have HSH := Lib.hid (shown4_true m w hm)
  have HSP := Lib.hid (fun (S : ByteArray) (W : World) h1 h2 => split_any S m W h1 h2)
  have HF := Lib.hid (fun p u l W n k c d lo hi w h1 h2 h3 h4 h5 => first_any p u l W n k c d lo hi w h1 h2 h3 h4 h5)
  clear hC hcr hm
  go_enter Try.func6, Try.ntmps6
  go_wp2_with fail
  refine HSH.out.mono ?_; rintro e w1 ⟨rfl, hb1⟩
  have HB1 := Lib.hid hb1
  clear hb1 HSH
  go_wp2_with fail
  have hz1 := HB1.out.size
  have HB2 := Lib.hid (HB1.out.alloc hz1 (Obj.cells #[.string { data := #[115, 101, 116] }, .string { data := #[108, 111, 99, 97, 108] }, .string { data := #[98, 101, 103, 105, 110] }, .string { data := #[120] }] 9))
  have HWC := Lib.hid (fun i hi => wl_cell w1 i hi 9)
  have hgz : w1.heap.size < (w1.alloc (Obj.cells #[.string { data := #[115, 101, 116] }, .string { data := #[108, 111, 99, 97, 108] }, .string { data := #[98, 101, 103, 105, 110] }, .string { data := #[120] }] 9)).heap.size := by simp
  generalize w1.alloc (Obj.cells #[.string { data := #[115, 101, 116] }, .string { data := #[108, 111, 99, 97, 108] }, .string { data := #[98, 101, 103, 105, 110] }, .string { data := #[120] }] 9) = w2 at HB2 HWC hgz ⊢
  go_loopw [7, 8, 9] (fun v s i wr => ∃ (k : Nat) (W : List Bs) (S : ByteArray), k ≤ len ∧ i = .int .i64 k ∧ s = .string S ∧ S.size ≤ 14 * k ∧ W.length = k ∧ bytes S = wordsText W ∧ (∀ x ∈ W, x ∈ wordList) ∧ Below w2.heap.size w2 wr ∧ wr.ownsRow w2.heap.size 9 1 v k (strC W)) (fun _ _ i _ => len - (RowKit.intOf i).toNat)
  case atStart => exact ⟨0, [], { data := #[] }, Nat.zero_le _, rfl, rfl, by decide, rfl, rfl, by simp, Below.refl _ _, World.ownsRow_nil _ _ _ _⟩
  case round =>
    obtain ⟨k, W, S, hk, rfl, rfl, hSz, hWl, hSW, hWW, hBB, hOO⟩ := hrel
    have HWL := Lib.hid hWl; have HSW := Lib.hid hSW; have HWW := Lib.hid hWW; have HBB := Lib.hid hBB; have HOO := Lib.hid hOO
    obtain ⟨va, vc, rfl⟩ := ownsRow_form hOO
    have hz2 := HBB.out.size
    clear hWl hSW hWW hBB hOO
    by_cases hlt : k < len
    · obtain ⟨b, off, hl0, hb, hCC⟩ : ∃ b off, l0 = some ⟨b, off, none⟩ ∧ b < w.heap.size ∧ IntsAt w b off len c := HC.out.elim (fun h => by omega) id
      subst hl0
      have hck := hCC k hlt
      have hcr := HCR.out k hlt
      generalize c k = x at hck hcr
      have d0 : wr.cell? ⟨b, off + k, none⟩ = some (.int .i64 x) := ((HB2.out.step HBB.out HB2.out.size).cell (p := ⟨b, off + k, none⟩) hb).trans hck
      clear hCC hck
      have hlt' : (k : Int) < len := by omega
      by_cases hx : x < 0
      · have r9 : (x + 1).tmod 4 = -((-(x + 1)) % 4) := by
          rw [← Int.tmod_eq_emod_of_nonneg (by omega), Int.neg_tmod]; omega
        have r0 : (x + 1).tmod 4 ≤ 0 := by omega
        have r1 : -(x + 1).tmod 4 < 4 := by omega
        clear r9
        have hi4 : (-(x + 1).tmod 4).toNat < 4 := by omega
        have d1 : wr.cell? ⟨w1.heap.size, (-(x + 1).tmod 4).toNat, none⟩ = some (.string (wl (-(x + 1).tmod 4).toNat)) := (HBB.out.cell (p := ⟨w1.heap.size, (-(x + 1).tmod 4).toNat, none⟩) hgz).trans (HWC.out (-(x + 1).tmod 4).toNat hi4)
        have HWM := Lib.hid (wl_mem (-(x + 1).tmod 4).toNat hi4)
        have hb5 := HWM.out.2
        clear hi4
        generalize wl (-(x + 1).tmod 4).toNat = O at d1 HWM hb5
        go_wp2_with (at_builtin; refine wpList_append_at _ rfl (.tmp 44) (.tmp 50) 30 rfl w2.heap.size 9 i0 (.string { data := #[] }) 1 16 Try.underlying30 hi y0 y1 y2 rfl (by decide) (.slice va k vc) k (strC W) rfl (HOO.out.alloc _) ⟨wr.heap.size, 0, none⟩ 1 1 [.string O] rfl rfl (fun j u h => by rw [add_plain, Nat.zero_add, ← h]; exact (World.cell?_alloc_new wr _ _ j).trans (by simp)) (by intro u hu; simp at hu; rcases hu with rfl; rfl) (by unfold maxLen; omega) (by omega) (by simp; omega) ?_)
        intro v' w4 hO4 hg4 _
        have HO4 := Lib.hid hO4
        have HB4 := Lib.hid (show Below w2.heap.size w2 w4 from below_grown (HBB.out.alloc HBB.out.size (Obj.cells #[.string O] 9)) (by simp; omega) hg4 (fun q hq => (HOO.out.lt q hq).1))
        have d2 : w4.cell? ⟨w1.heap.size, (-(x + 1).tmod 4).toNat, none⟩ = some (.string O) := by rw [← d1]; exact (HB4.out.cell (p := ⟨w1.heap.size, (-(x + 1).tmod 4).toNat, none⟩) hgz).trans (HBB.out.cell (p := ⟨w1.heap.size, (-(x + 1).tmod 4).toNat, none⟩) hgz).symm
        have HSN := Lib.hid (show bytes ((S ++ O) ++ { data := #[32, 47, 42, 32, 59, 32, 42, 47, 10] }) = wordsText (W ++ [bytes O]) by rw [wordsText_snoc, ← HSW.out, bytes_append, bytes_append])
        clear hO4 hg4 d1
        go_wp2_with fail
        go_roundw
        case rel => exact ⟨k + 1, W ++ [bytes O], _, by omega, by go_num, rfl, by simp only [ByteArray.size_append]; show S.size + O.size + 9 ≤ _; omega, by rw [List.length_append, HWL.out]; rfl, HSN.out, fun x hx => by rcases List.mem_append.1 hx with h | h; exact HWW.out x h; rw [List.mem_singleton.1 h]; exact HWM.out.1, HB4.out, by rw [strC_snoc, bytes_str]; exact HO4.out⟩
        case measure => simp [RowKit.intOf]; omega
      · have hx' : 0 ≤ x := by omega
        have r0 : 0 ≤ x % 4 := by omega
        have r1 : x % 4 < 4 := by omega
        have hi4 : (x % 4).toNat < 4 := by omega
        have d1 : wr.cell? ⟨w1.heap.size, (x % 4).toNat, none⟩ = some (.string (wl (x % 4).toNat)) := (HBB.out.cell (p := ⟨w1.heap.size, (x % 4).toNat, none⟩) hgz).trans (HWC.out (x % 4).toNat hi4)
        have HWM := Lib.hid (wl_mem (x % 4).toNat hi4)
        have hb5 := HWM.out.2
        clear hi4
        generalize wl (x % 4).toNat = O at d1 HWM hb5
        go_wp2_with (at_builtin; refine wpList_append_at _ rfl (.tmp 44) (.tmp 50) 30 rfl w2.heap.size 9 i0 (.string { data := #[] }) 1 16 Try.underlying30 hi y0 y1 y2 rfl (by decide) (.slice va k vc) k (strC W) rfl (HOO.out.alloc _) ⟨wr.heap.size, 0, none⟩ 1 1 [.string O] rfl rfl (fun j u h => by rw [add_plain, Nat.zero_add, ← h]; exact (World.cell?_alloc_new wr _ _ j).trans (by simp)) (by intro u hu; simp at hu; rcases hu with rfl; rfl) (by unfold maxLen; omega) (by omega) (by simp; omega) ?_)
        intro v' w4 hO4 hg4 _
        have HO4 := Lib.hid hO4
        have HB4 := Lib.hid (show Below w2.heap.size w2 w4 from below_grown (HBB.out.alloc HBB.out.size (Obj.cells #[.string O] 9)) (by simp; omega) hg4 (fun q hq => (HOO.out.lt q hq).1))
        have d2 : w4.cell? ⟨w1.heap.size, (x % 4).toNat, none⟩ = some (.string O) := by rw [← d1]; exact (HB4.out.cell (p := ⟨w1.heap.size, (x % 4).toNat, none⟩) hgz).trans (HBB.out.cell (p := ⟨w1.heap.size, (x % 4).toNat, none⟩) hgz).symm
        have HSN := Lib.hid (show bytes ((S ++ O) ++ { data := #[32, 47, 42, 32, 59, 32, 42, 47, 10] }) = wordsText (W ++ [bytes O]) by rw [wordsText_snoc, ← HSW.out, bytes_append, bytes_append])
        clear hO4 hg4 d1
        go_wp2_with fail
        go_roundw
        case rel => exact ⟨k + 1, W ++ [bytes O], _, by omega, by go_num, rfl, by simp only [ByteArray.size_append]; show S.size + O.size + 9 ≤ _; omega, by rw [List.length_append, HWL.out]; rfl, HSN.out, fun x hx => by rcases List.mem_append.1 hx with h | h; exact HWW.out x h; rw [List.mem_singleton.1 h]; exact HWM.out.1, HB4.out, by rw [strC_snoc, bytes_str]; exact HO4.out⟩
        case measure => simp [RowKit.intOf]; omega
    · obtain rfl : k = len := by omega
      have hmo' : (more.size : Int) ≤ 500 := by omega
      have HMW := Lib.hid (((HB2.out.step HBB.out HB2.out.size).cell (p := ⟨0, 0, none⟩) HW0.out).trans HM.out)
      have HB3 := Lib.hid (HB2.out.step HBB.out HB2.out.size)
      clear HC HCR HWC HB2 HB1
      go_wp2_with fail
      refine (HSP.out _ wr (by rw [ByteArray.size_append]; omega) HMW.out).mono ?_; rintro e w3 ⟨hb3, hcs⟩
      have HB4 := Lib.hid (HB3.out.step hb3 HB3.out.size)
      have HOW := Lib.hid (own_grown HOO.out hb3 (Nat.le_refl _))
      clear hb3
      rcases hcs with ⟨_, rfl⟩ | ⟨T, xs, n, p, cc, hT, hxs, hn, hn1, hnc, rfl, hst, hin⟩
      · go_wp2_with fail
        go_ret
        exact ⟨rfl, HB4.out⟩
      · cases xs with
        | nil =>
          obtain rfl : 0 = n := hn
          clear hT hxs hst hin
          go_wp2_with fail
          go_ret
          exact ⟨rfl, HB4.out⟩
        | cons x0 xs =>
          have hn0 : 0 < n := by rw [← hn]; exact Nat.succ_pos _
          have hn0' : (0 : Int) < n := by omega
          have hnn : ¬ n = 0 := by omega
          have HBG := Lib.hid (first_begins HWW.out (T := T) (more := bytes more) (by rw [← HSW.out]; rw [bytes_append] at hT; exact hT) (t := x0.toks) (xs := xs.map St.toks) (by rw [← hxs]; rfl))
          obtain ⟨g, rfl, hg, a0, a1, a2⟩ := hst.get (i := 0) rfl
          simp only [Nat.zero_mul, Nat.zero_add] at a0 a1 a2
          have HA := Lib.hid (hin _ (List.mem_cons_self ..)).at
          obtain ⟨ta, td, T0⟩ := x0
          generalize St.lo ⟨ta, td, T0⟩ = slo at a1
          generalize St.hi ⟨ta, td, T0⟩ = shi at a2
          simp only at a0 HA HBG
          obtain ⟨tn, htn⟩ : ∃ tn, tn = T0.length := ⟨_, rfl⟩
          rw [← htn] at a0
          have HTN := Lib.hid htn
          have htn9 : tn ≤ 2000 := by
            have h1 := (tokens_facts hT).1
            have h2 : T0.length ≤ T.length := splits_mem (by rw [← hxs]; exact List.mem_cons_self ..)
            have h3 : (bytes (S ++ more)).length ≤ 2000 := by rw [bytes_len, ByteArray.size_append]; omega
            omega
          clear hT hxs hst hin hn htn
          go_wp2_with fail
          have HWA := Lib.hid (own_words HOW.out HWL.out)
          refine (HF.out ta va T0 W tn k td vc slo shi w3 HTN.out.symm HWL.out HA.out HWA.out (by omega)).mono ?_; rintro e w4 ⟨rfl, hb4⟩
          rw [HBG.out]
          have a0 := (hb4.cell (p := ⟨g, 0, none⟩) hg).trans a0
          have a1 := (hb4.cell (p := ⟨g, 1, none⟩) hg).trans a1
          have a2 := (hb4.cell (p := ⟨g, 2, none⟩) hg).trans a2
          have hg := Nat.lt_of_lt_of_le hg hb4.size
          have HB5 := Lib.hid (HB4.out.step hb4 HB4.out.size)
          have HA5 := Lib.hid (HA.out.step hb4)
          have HO5 := Lib.hid (own_grown HOW.out hb4 (Nat.le_refl _))
          clear hb4
          obtain ⟨v5, w5, hrun, hO6, hB6⟩ := words_copy HO5.out HWL.out (by omega)
          obtain ⟨xa, xc, rfl⟩ := ownsRow_form hO6
          have HX0 := Lib.hid a0; have HX1 := Lib.hid a1; have HX2 := Lib.hid a2
          clear a0 a1 a2
          have HB6 := Lib.hid hB6
          have HO6 := Lib.hid hO6
          have hz6 := hB6.size
          have HRUN := Lib.hid hrun
          clear hO6 hB6 hrun
          go_wp2_with (at_builtin; first | (refine wpList_append_eq rfl (.tmp 85) (.tmp 86) 30 rfl _ _ rfl rfl _ _ HRUN.out ?_) | (refine wpList_append_at _ rfl (.tmp 87) (.tmp 88) 30 rfl w4.heap.size 9 i0 (.string { data := #[] }) 1 16 Try.underlying30 hi y0 y1 y2 rfl (by decide) (.slice xa k xc) k (strC W) rfl (HO6.out.alloc _) ⟨w5.heap.size, 0, none⟩ 1 1 [.string { data := #[110, 111, 110, 101] }] rfl rfl (fun j u h => by rw [add_plain, Nat.zero_add, ← h]; exact (World.cell?_alloc_new w5 _ _ j).trans (by simp)) (by intro u hu; simp at hu; rcases hu with rfl; rfl) (by unfold maxLen; omega) (by omega) (by simp; omega) ?_; intro v6 w6 hO7 hg7 _; obtain ⟨xb, xd, rfl⟩ := ownsRow_form hO7; have hb7 := below_grown (HB6.out.alloc HB6.out.size _) (by simp; omega) hg7 (fun q hq => (HO6.out.lt q hq).1); have a0 := (hb7.cell (p := ⟨g, 0, none⟩) hg).trans HX0.out; have a1 := (hb7.cell (p := ⟨g, 1, none⟩) hg).trans HX1.out; have a2 := (hb7.cell (p := ⟨g, 2, none⟩) hg).trans HX2.out; have HO7 := Lib.hid hO7; have HB7 := Lib.hid hb7; clear hO7 hg7 hb7))
          have HA7 := Lib.hid (HA5.out.step HB7.out)
          refine (HF.out ta none T0 [] tn 0 td 0 slo shi w6 HTN.out.symm rfl HA7.out (fun i x hx => by cases hx) (by omega)).mono ?_; rintro e w7 ⟨rfl, hb8⟩
          rw [show begins T0 [] = true by cases T0 <;> rfl]
          have a0 := (hb8.cell (p := ⟨g, 0, none⟩) (Nat.lt_of_lt_of_le hg HB7.out.size)).trans a0
          have a1 := (hb8.cell (p := ⟨g, 1, none⟩) (Nat.lt_of_lt_of_le hg HB7.out.size)).trans a1
          have a2 := (hb8.cell (p := ⟨g, 2, none⟩) (Nat.lt_of_lt_of_le hg HB7.out.size)).trans a2
          have HB8 := Lib.hid (HB7.out.step hb8 HB7.out.size)
          have HO8 := Lib.hid (show w7.ownsRow w4.heap.size 9 1 (.slice xb (k + 1) xd) (k + 1) (strC (W ++ [[110, 111, 110, 101]])) by rw [strC_snoc]; exact own_grown HO7.out hb8 (Nat.le_refl _))
          have HA8 := Lib.hid (HA7.out.step hb8)
          clear hb8 HO7
          go_wp2_with fail
          have hwl1 : (W ++ [[110, 111, 110, 101]]).length = k + 1 := by rw [List.length_append, HWL.out]; rfl
          refine (HF.out ta xb T0 (W ++ [[110, 111, 110, 101]]) tn (k + 1) td xd slo shi w7 HTN.out.symm hwl1 HA8.out (own_words HO8.out hwl1) (by omega)).mono ?_; rintro e w8 ⟨rfl, hb9⟩
          clear hwl1
          have HB9 := Lib.hid (HB8.out.step hb9 HB8.out.size)
          cases hbl : begins T0 (W ++ [[110, 111, 110, 101]]) with
          | false =>
            clear hbl hb9
            go_wp2_with fail
            go_ret
            exact ⟨rfl, HB5.out.step HB9.out HB5.out.size⟩
          | true =>
            obtain ⟨q, hq, hqt⟩ := begins_snoc _ _ _ hbl
            rw [HWL.out] at hq
            obtain ⟨gt, rfl, hgt, _, t1, _⟩ := HA8.out k q hq
            have hkt : k < tn := by rw [HTN.out]; exact (List.getElem?_eq_some_iff.1 hq).1
            rw [hqt] at t1
            have t1 : w8.cell? ⟨gt, k * 4 + 1, none⟩ = some (.string { data := #[110, 111, 110, 101] }) := (hb9.cell (p := ⟨gt, k * 4 + 1, none⟩) hgt).trans t1
            have hkt' : (k : Int) < tn := by omega
            have a0 := (hb9.cell (p := ⟨g, 0, none⟩) (Nat.lt_of_lt_of_le hg HB8.out.size)).trans a0
            have a1 := (hb9.cell (p := ⟨g, 1, none⟩) (Nat.lt_of_lt_of_le hg HB8.out.size)).trans a1
            have a2 := (hb9.cell (p := ⟨g, 2, none⟩) (Nat.lt_of_lt_of_le hg HB8.out.size)).trans a2
            clear hbl hb9 hq hqt
            go_wp2_with fail
            go_ret
            exact ⟨rfl, HB5.out.step HB9.out HB5.out.size⟩

theorem first4_early (l0 : Option Addr) (len cap : Nat) (more : ByteArray) (m : Int) (w : World) (h : (10 : Int) < len ∨ (500 : Int) < more.size) (hm : w.cell? ⟨0, 0, none⟩ = some (.int .i64 m)) :
    Calls Try.prog 6 #[.slice l0 len cap, .string more] w fun e w' => e = .returned (.bool true) ∧ Below w.heap.size w w' := by
  have HSH := Lib.hid (shown4_true m w hm)
  clear hm
  by_cases h1 : (10 : Int) < len
  · clear h
    go_enter Try.func6, Try.ntmps6
    go_wp2_with fail
    refine HSH.out.mono ?_; rintro e w1 ⟨rfl, hb1⟩
    have HB1 := Lib.hid hb1
    clear hb1 HSH
    go_wp2_with fail
    go_ret
    exact ⟨rfl, HB1.out⟩
  · have h2 : (500 : Int) < more.size := h.resolve_left h1
    have h1' : (len : Int) ≤ 10 := by omega
    clear h h1
    go_enter Try.func6, Try.ntmps6
    go_wp2_with fail
    refine HSH.out.mono ?_; rintro e w1 ⟨rfl, hb1⟩
    have HB1 := Lib.hid hb1
    clear hb1 HSH
    go_wp2_with fail
    go_ret
    exact ⟨rfl, HB1.out⟩

theorem first4_ok (l0 : Option Addr) (len cap : Nat) (c : Nat → Int) (more : ByteArray) (m : Int) (w : World) (hC : len = 0 ∨ ∃ b off, l0 = some ⟨b, off, none⟩ ∧ b < w.heap.size ∧ IntsAt w b off len c) (hcr : ∀ i, i < len → -9223372036854775808 ≤ c i ∧ c i ≤ 9223372036854775807) (hm : w.cell? ⟨0, 0, none⟩ = some (.int .i64 m)) :
    Calls Try.prog 6 #[.slice l0 len cap, .string more] w fun e w' => e = .returned (.bool true) ∧ Below w.heap.size w w' := by
  by_cases h : len ≤ 10 ∧ more.size ≤ 500
  · exact first4_walk l0 len cap c more m w h.1 h.2 hC hcr hm
  · exact first4_early l0 len cap more m w (by omega) hm

set_option maxRecDepth 100000 in
theorem first4_lifted (os : Os) (started : os.Started) (H : Type) (enc : TypeId × Value → H) :
    ReturnsInHanded {} Try.checked os 6 .any (Rows.splitFirstSpec.pre6 enc Try.prog Try.f6 Rows.splitFirstRow.domain false) (Rows.splitFirstSpec.post enc Try.prog Try.f6 false true false false) := by
  refine returnsInHanded_of_change_shaped (C := Try.checked) own started (by kernel_rfl) Try.func6
    (ChangeSpec.witness6 (enc := enc) (C := Try.checked) false ⟨#[], #[.slice none 0 0, .string { data := #[] }], []⟩ 8 (by kernel_rfl) (by kernel_rfl) (by kernel_rfl) (by kernel_rfl)) ?_
  intro W base args ds gs before hval0 hW _ hsz0 hsh _
  obtain ⟨m, hm⟩ : ∃ m, W.cell? ⟨0, 0, none⟩ = some (.int .i64 m) := Try.laysM143.s1_3 W hsh
  have hsz : (DataW.weightsEach Try.prog (Try.f6.params.toList ++ Rows.splitFirstSpec.plain.varTypes Try.prog) (ds ++ gs)).all (· ≤ reachBytes) = true := hsz0
  clear hsz0
  have hval : ∀ (j : Nat) t v, Try.f6.params[j]? = some t → args[j]? = some v → Value.okWide Try.prog W .any base t v := hval0
  have hW' := hW
  obtain ⟨p, q, hA0, hV, rfl, _, _⟩ := hW
  have hA : DataW.TrodAll enc Try.prog W 0 (fun _ => true) true Try.f6.params.toList args.toList ds p := hA0
  rw [Try.params6] at hA hval hsz
  obtain ⟨v0, v1, d0, d1, p0, p1, rfl, rfl, rfl, h0, h1⟩ := trodAll_two hA
  obtain ⟨rfl, rfl⟩ := trodVars_none hV
  obtain ⟨a0, len, cap, rfl⟩ := okWide_slice Try.underlying34 (hval 0 34 v0 rfl rfl)
  obtain ⟨c, hcr, hC⟩ := open_row h0
  obtain ⟨more, rfl, rfl, rfl, hl_more⟩ := Go.ChangeMaps.open_string Try.underlying9 (hval 1 9 v1 rfl rfl) h1
  have hz_more : more.size ≤ 140737488351232 := by have := sized_string hsz (j := 1) (t := 9) rfl rfl; rw [size_list] at this; exact this
  refine (first4_ok a0 len cap c more m W hC hcr hm).mono fun e W' ⟨he, hb⟩ => ?_
  subst he
  exact ⟨_, rfl, law_shut laidOut (by kernel_rfl) (by kernel_rfl) Try.underlying4 rfl hW' rfl hb⟩

theorem first4_holds : Rows.SplitFirstSaid :=
  OpenClaim.holds_of_wide 6 Try.f6 rfl rfl rfl rfl rfl rfl rfl ⟨rfl, rfl, rfl, rfl, rfl⟩ rfl rfl rfl rfl rfl (by kernel_rfl) Try.func6 (by kernel_rfl)
    (of_decide_eq_true (by kernel_rfl)) (by unfold Func.isWrapper; rw [if_neg (of_decide_eq_false (by kernel_rfl))]; exact ⟨rfl, rfl⟩)
    (fun os started H enc _ => first4_lifted os started H enc)
end Go.Proofs.Ytckimeikiakfcaa
