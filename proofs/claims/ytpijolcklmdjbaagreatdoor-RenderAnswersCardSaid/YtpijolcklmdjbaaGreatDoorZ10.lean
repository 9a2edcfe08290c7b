/- Contracts and mathematics: GBuild, GTog, GTold, GRow, MRM. -/
import Derived.Test.YtpijolcklmdjbaaGreatDoorZ9
import Derived.Shelf.Strings.BuilderK
import Derived.Test.YtpijolcklmdjbaaGreatDoorZ8
import Derived.Deep.LoopGhost
import Derived.Test.YtpijolcklmdjbaaGreatDoorZ1
namespace Go.Proofs.YtpijolcklmdjbaaGreatDoor
open Go.RowKit Go.Lib Go.WideShapes Go.Shelf

set_option maxRecDepth 100000 in
theorem g_lays166 : Go.Proofs.Lays.n166 Tryz.prog Tryz.lays155_ren := { Tryz.lays155 with }
set_option maxRecDepth 100000 in
theorem g_lays169 : Go.Proofs.Lays.n169 Tryz.prog Tryz.lays155_ren := { Tryz.lays155 with }

abbrev GB (B b : Nat) (l : Bs) (w : World) : Prop := Lib.IsBuilderF 99 5 B b (Lib.byteCells l) w
theorem GB.alloc {B b : Nat} {l : Bs} {w : World} (h : GB B b l w) (o : Obj) : GB B b l (w.alloc o) := h.elim (fun x => .inl (x.alloc o)) (fun x => .inr (x.alloc o))
theorem GB.drewN {B b : Nat} {l : Bs} {w : World} (h : GB B b l w) (n : Nat) : GB B b l (w.drewN n) := h
theorem g_atF_below {T e : TypeId} {B b : Nat} {p : Value} {bs : List Value} {w w' : World} (h : Lib.BuilderAtF T e B b p bs w) (hb : Below w.heap.size w w') : Lib.BuilderAtF T e B b p bs w' := by
  obtain ⟨h0, v, h1, h2, h3⟩ := h
  exact ⟨h0, v, (hb.block b (Array.getElem?_eq_some_iff.1 h1).1).trans h1, h2.kept (grow_below hb none) (by cases v.ownBlock <;> simp), h3⟩
theorem GB.below {B b : Nat} {l : Bs} {w w' : World} (h : GB B b l w) (hb : Below w.heap.size w w') : GB B b l w' := h.elim (fun x => .inl (g_atF_below x hb)) (fun x => .inr (g_atF_below x hb))
theorem gB_new (w : World) : GB w.heap.size w.heap.size [] (w.alloc (.cells #[.pointer none, .slice none 0 0] 99)) :=
  .inl ⟨Nat.le_refl _, _, heap_alloc_new w _, World.ownsRowF_nil _ _ _ _, by simp [Value.ownBlock]⟩
theorem g_wr_string (B b : Nat) (l : Bs) (s : ByteArray) (w : World) (h : GB B b l w) (hlen : l.length + s.size ≤ 100000000) (hBw : B ≤ w.heap.size) :
    Calls Tryz.prog 50 #[.pointer (some ⟨b, 0, none⟩), .string s] w fun e w' => e = .returned (.tuple #[.int .i64 s.size, .nilIface]) ∧ GB B b (l ++ bytes s) w' ∧ Below B w w' := by
  refine (Any.Builder_WriteString_k g_lays166 Tryz.Builder_Extra_155 B b (Lib.byteCells l) s w h (by rw [Lib.byteCells_length]; omega) hBw).mono ?_
  rintro e w' ⟨rfl, h1, h2, _⟩
  exact ⟨rfl, .inr (by rw [Lib.byteCells_append]; exact h1), h2⟩
theorem g_str_of (B b : Nat) (l : Bs) (w : World) (h : GB B b l w) (hBw : B ≤ w.heap.size) :
    Calls Tryz.prog 51 #[.pointer (some ⟨b, 0, none⟩)] w fun e w' => e = .returned (.string ⟨l.toArray⟩) ∧ Below B w w' := by
  refine (Any.Builder_String_any_k g_lays169 Tryz.Builder_Extra_155 B b l w h hBw).mono ?_
  rintro e w' ⟨rfl, _, h2, _⟩
  exact ⟨rfl, h2⟩
end Go.Proofs.YtpijolcklmdjbaaGreatDoor

namespace Go.Proofs.YtpijolcklmdjbaaGreatDoor
open Go.RowKit Go.Lib Go.WideShapes

structure Mg where
  c : UInt8
  T : List Bs
  N : List Int
def Mg.w (x : Mg) : Option Bs := written true x.c x.T x.N
def Mg.s (x : Mg) : ByteArray := packB (x.c.toNat : Nat) ⟨((x.w).getD []).toArray⟩
/-- What is wrong with the first one of which something is. -/
def togE : List Mg → Int
  | [] => 0
  | x :: r => if encE x.w = 0 then togE r else encE x.w
def togB (L : List Mg) : Bs := L.flatMap fun x => bytes x.s
def togS (L : List Mg) : ByteArray := if togE L = 0 then ⟨(togB L).toArray⟩ else { data := #[] }
/-- A row of messages in memory. -/
def MsgsAt (w : World) (p : Option Addr) (L : List Mg) : Prop := L = [] ∨ ∃ g off, p = some ⟨g, off, none⟩ ∧ g < w.heap.size ∧ ∀ (i : Nat) x, L[i]? = some x → ∃ a n c b m d, w.cell? ⟨g, off + i * 3, none⟩ = some (.int .u8 (x.c.toNat : Nat)) ∧ w.cell? ⟨g, off + i * 3 + 1, none⟩ = some (.slice a n c) ∧ w.cell? ⟨g, off + i * 3 + 2, none⟩ = some (.slice b m d) ∧ TextsIn w (.slice a n c) x.T ∧ NumsIn w (.slice b m d) x.N
theorem MsgsAt.step {w w' : World} {p : Option Addr} {L : List Mg} (h : MsgsAt w p L) (hb : Below w.heap.size w w') : MsgsAt w' p L := by
  rcases h with h | ⟨g, off, hp, hg, h⟩
  · exact .inl h
  · refine .inr ⟨g, off, hp, Nat.lt_of_lt_of_le hg hb.size, fun i x hx => ?_⟩
    obtain ⟨a, n, c, b, m, d, h1, h2, h3, h4, h5⟩ := h i x hx
    exact ⟨a, n, c, b, m, d, (hb.cell (p := ⟨g, off + i * 3, none⟩) hg).trans h1, (hb.cell (p := ⟨g, off + i * 3 + 1, none⟩) hg).trans h2, (hb.cell (p := ⟨g, off + i * 3 + 2, none⟩) hg).trans h3, h4.mono hb, h5.mono hb⟩
theorem encE_len {r : Option Bs} (h : encE r = 0) : (r.getD []).length ≤ 10000 := by
  cases r with
  | none => exact absurd h (by decide)
  | some B =>
    by_cases hb : 10000 < B.length
    · have h3 : encE (some B) = 3 := if_pos hb
      rw [h3] at h; cases h
    · show B.length ≤ 10000
      omega
theorem s_size {x : Mg} (h : encE x.w = 0) : x.s.size ≤ 10005 := by
  unfold Mg.s
  rw [packB_size, bsize]
  have := encE_len h
  split <;> omega
theorem tog_take {L : List Mg} {k : Nat} (h : k < L.length) : togB (L.take (k + 1)) = togB (L.take k) ++ bytes (L[k]).s := by
  unfold togB
  rw [List.take_succ_eq_append_getElem h, List.flatMap_append]
  simp
theorem tog_drop {L : List Mg} {k : Nat} (h : k < L.length) : togE (L.drop k) = if encE (L[k]).w = 0 then togE (L.drop (k + 1)) else encE (L[k]).w := by
  rw [List.drop_eq_getElem_cons h]; rfl
end Go.Proofs.YtpijolcklmdjbaaGreatDoor

namespace Go.Proofs.YtpijolcklmdjbaaGreatDoor
open Go.RowKit Go.Lib Go.WideShapes

theorem info_msg : (Tryz.prog.info? 39).map (fun i => (i.zero, i.size, i.bytes)) = some (some (.agg #[.int .u8 0, .slice none 0 0, .slice none 0 0]), 3, 56) := by kernel_rfl

/-- The cells of a message, whose rows lie apart from the row v. -/
def MsgAt (w : World) (v : Value) (ys : List Value) (i : Nat) (x : Mg) : Prop := ∃ a n c b m d, ys[i * 3]? = some (.int .u8 (x.c.toNat : Nat)) ∧ ys[i * 3 + 1]? = some (.slice a n c) ∧ ys[i * 3 + 2]? = some (.slice b m d) ∧ TextsIn w (.slice a n c) x.T ∧ NumsIn w (.slice b m d) x.N ∧ (x.T ≠ [] → ∀ g off, a = some ⟨g, off, none⟩ → some g ≠ v.ownBlock) ∧ (x.N ≠ [] → ∀ g off, b = some ⟨g, off, none⟩ → some g ≠ v.ownBlock)
def ToldG (B : Nat) (w : World) (v : Value) (L : List Mg) : Prop := ∃ xs, w.ownsRow B 39 3 v L.length xs ∧ ∀ i x, L[i]? = some x → MsgAt w v xs i x

theorem texts_grown {w w' : World} {v : Value} {a : Option Addr} {n c : Nat} {T : List Bs} (h : TextsIn w (.slice a n c) T) (hg : w.grownBy w' v.ownBlock) (ha : T ≠ [] → ∀ g off, a = some ⟨g, off, none⟩ → some g ≠ v.ownBlock) : TextsIn w' (.slice a n c) T := by
  obtain ⟨a', n', c', hv, hl, h1, h2, hr⟩ := h
  injection hv with e1 e2 e3
  subst e1 e2 e3
  refine ⟨a, n, c, rfl, hl, h1, h2, ?_⟩
  by_cases h0 : T = []
  · exact .inl h0
  rcases hr with hr | ⟨g, off, hga, hlt, hc⟩
  · exact .inl hr
  · exact .inr ⟨g, off, hga, Nat.lt_of_lt_of_le hlt hg.size, fun i t ht => hg.cell (hc i t ht) (ha h0 g off hga)⟩
theorem nums_grown {w w' : World} {v : Value} {a : Option Addr} {n c : Nat} {T : List Int} (h : NumsIn w (.slice a n c) T) (hg : w.grownBy w' v.ownBlock) (ha : T ≠ [] → ∀ g off, a = some ⟨g, off, none⟩ → some g ≠ v.ownBlock) : NumsIn w' (.slice a n c) T := by
  obtain ⟨a', n', c', hv, hl, h1, h2, hr⟩ := h
  injection hv with e1 e2 e3
  subst e1 e2 e3
  refine ⟨a, n, c, rfl, hl, h1, h2, ?_⟩
  by_cases h0 : T = []
  · exact .inl h0
  rcases hr with hr | ⟨g, off, hga, hlt, hc⟩
  · exact .inl hr
  · exact .inr ⟨g, off, hga, Nat.lt_of_lt_of_le hlt hg.size, fun i t ht => hg.cell (hc i t ht) (ha h0 g off hga)⟩
theorem texts_lt {w : World} {a : Option Addr} {n c g off : Nat} {T : List Bs} (h : TextsIn w (.slice a n c) T) (h0 : T ≠ []) (ha : a = some ⟨g, off, none⟩) : g < w.heap.size := by
  obtain ⟨a', n', c', hv, hl, h1, h2, hr⟩ := h
  injection hv with e1 e2 e3
  subst e1 e2 e3
  rcases hr with hr | ⟨g', off', hga, hlt, hc⟩
  · exact absurd hr h0
  · rw [ha] at hga; cases hga; exact hlt
theorem nums_lt {w : World} {a : Option Addr} {n c g off : Nat} {T : List Int} (h : NumsIn w (.slice a n c) T) (h0 : T ≠ []) (ha : a = some ⟨g, off, none⟩) : g < w.heap.size := by
  obtain ⟨a', n', c', hv, hl, h1, h2, hr⟩ := h
  injection hv with e1 e2 e3
  subst e1 e2 e3
  rcases hr with hr | ⟨g', off', hga, hlt, hc⟩
  · exact absurd hr h0
  · rw [ha] at hga; cases hga; exact hlt
theorem MsgAt.grown {w w' : World} {v v' : Value} {ys : List Value} {i : Nat} {x : Mg} (h : MsgAt w v ys i x) (hg : w.grownBy w' v.ownBlock) (hf : ∀ k, v'.ownBlock = some k → v.ownBlock = some k ∨ w.heap.size ≤ k) : MsgAt w' v' ys i x := by
  obtain ⟨a, n, c, b, m, d, h1, h2, h3, h4, h5, h6, h7⟩ := h
  refine ⟨a, n, c, b, m, d, h1, h2, h3, texts_grown h4 hg h6, nums_grown h5 hg h7, fun h0 g off ha e => ?_, fun h0 g off ha e => ?_⟩
  · rcases hf g e.symm with hh | hh
    · exact h6 h0 g off ha hh.symm
    · exact absurd (texts_lt h4 h0 ha) (by omega)
  · rcases hf g e.symm with hh | hh
    · exact h7 h0 g off ha hh.symm
    · exact absurd (nums_lt h5 h0 ha) (by omega)
theorem MsgAt.mono {w w' : World} {v : Value} {ys : List Value} {i : Nat} {x : Mg} (h : MsgAt w v ys i x) (hb : Below w.heap.size w w') : MsgAt w' v ys i x := by
  obtain ⟨a, n, c, b, m, d, h1, h2, h3, h4, h5, h6, h7⟩ := h
  exact ⟨a, n, c, b, m, d, h1, h2, h3, h4.mono hb, h5.mono hb, h6, h7⟩
theorem told_grown {w w' : World} {v v' : Value} {L M : List Mg} {xs news : List Value} (hl : xs.length = L.length * 3) (hx : ∀ i x, L[i]? = some x → MsgAt w v xs i x) (hm : ∀ i x, M[i]? = some x → MsgAt w v news i x) (hg : w.grownBy w' v.ownBlock) (hf : ∀ k, v'.ownBlock = some k → v.ownBlock = some k ∨ w.heap.size ≤ k) : ∀ i x, (L ++ M)[i]? = some x → MsgAt w' v' (xs ++ news) i x := by
  intro i x hi
  by_cases hlt : i < L.length
  · rw [List.getElem?_append_left hlt] at hi
    obtain ⟨a, n, c, b, m, d, h1, h2, h3, h⟩ := (hx i x hi).grown hg hf
    exact ⟨a, n, c, b, m, d, by rw [List.getElem?_append_left (by omega)]; exact h1, by rw [List.getElem?_append_left (by omega)]; exact h2, by rw [List.getElem?_append_left (by omega)]; exact h3, h⟩
  · rw [List.getElem?_append_right (by omega)] at hi
    obtain ⟨a, n, c, b, m, d, h1, h2, h3, h⟩ := (hm _ x hi).grown hg hf
    exact ⟨a, n, c, b, m, d, by rw [List.getElem?_append_right (by omega), show i * 3 - xs.length = (i - L.length) * 3 by omega]; exact h1, by rw [List.getElem?_append_right (by omega), show i * 3 + 1 - xs.length = (i - L.length) * 3 + 1 by omega]; exact h2, by rw [List.getElem?_append_right (by omega), show i * 3 + 2 - xs.length = (i - L.length) * 3 + 2 by omega]; exact h3, h⟩
theorem ToldG.nil (B : Nat) (w : World) : ToldG B w (.slice none 0 0) [] := ⟨[], ⟨rfl, .inl ⟨rfl, rfl⟩⟩, fun i x h => by cases h⟩
theorem ToldG.mono {B : Nat} {w w' : World} {v : Value} {L : List Mg} (h : ToldG B w v L) (hb : Below w.heap.size w w') : ToldG B w' v L := by
  obtain ⟨xs, h1, h2⟩ := h
  exact ⟨xs, h1.kept (grow_below hb none) (by cases v.ownBlock <;> simp), fun i x hx => (h2 i x hx).mono hb⟩
theorem ToldG.at {B : Nat} {w : World} {v : Value} {L : List Mg} (h : ToldG B w v L) : ∃ a c, v = .slice a L.length c ∧ L.length ≤ c ∧ MsgsAt w a L := by
  obtain ⟨xs, h1, h2⟩ := h
  rcases h1.2 with ⟨rfl, h0⟩ | ⟨g, cap, cur, rfl, hbg, hg, hnc, hcm, hcs, htake⟩
  · exact ⟨none, 0, by rw [h0], by omega, .inl (List.eq_nil_of_length_eq_zero h0)⟩
  · refine ⟨_, cap, rfl, hnc, .inr ⟨g, 0, rfl, (Array.getElem?_eq_some_iff.1 hg).1, fun i x hx => ?_⟩⟩
    obtain ⟨a, n, c, b, m, d, e1, e2, e3, e4, e5, _, _⟩ := h2 i x hx
    have hc := h1.cells (g := g) rfl
    have c1 := hc _ _ e1
    have c2 := hc _ _ e2
    have c3 := hc _ _ e3
    rw [Go.WideShapes.add_plain] at c1 c2 c3
    exact ⟨a, n, c, b, m, d, c1, by rw [Nat.add_assoc]; exact c2, by rw [Nat.add_assoc]; exact c3, e4, e5⟩
theorem ToldG.form {B : Nat} {w : World} {v : Value} {L : List Mg} (h : ToldG B w v L) : ∃ a c, v = .slice a L.length c ∧ L.length ≤ c := by
  obtain ⟨a, c, h1, h2, _⟩ := h.at
  exact ⟨a, c, h1, h2⟩
end Go.Proofs.YtpijolcklmdjbaaGreatDoor

namespace Go.Proofs.YtpijolcklmdjbaaGreatDoor
open Go.RowKit Go.Lib Go.WideShapes

theorem info_int : (Tryz.prog.info? 3).map (fun i => (i.zero, i.size, i.bytes)) = some (some (.int .i64 0), 1, 8) := by kernel_rfl
/-- A row of one cell that was just made. -/
theorem own_one (w : World) (x : Value) (e : TypeId) (B : Nat) (hB : B ≤ w.heap.size) : (w.alloc (.cells #[x] e)).ownsRow B e 1 (.slice (some ⟨w.heap.size, 0, none⟩) 1 1) 1 [x] :=
  ⟨rfl, .inr ⟨w.heap.size, 1, #[x], rfl, hB, heap_alloc_new _ _, Nat.le_refl _, by decide, rfl, rfl⟩⟩
theorem own_numsG {w : World} {B n : Nat} {v : Value} {N : List Int} (h : w.ownsRow B 3 1 v n (N.map (Value.int .i64))) (hl : N.length = n) : ∃ a c, v = .slice a n c ∧ n ≤ c ∧ NumsIn w (.slice a n c) N ∧ (∀ g off, a = some ⟨g, off, none⟩ → B ≤ g ∧ g < w.heap.size) := by
  rcases h.2 with ⟨rfl, h0⟩ | ⟨g, cap, cur, rfl, hbg, hg, hnc, hcm, hcs, htake⟩
  · subst h0
    exact ⟨none, 0, rfl, Nat.le_refl _, ⟨none, 0, 0, rfl, hl, Nat.le_refl _, by omega, .inl (List.eq_nil_of_length_eq_zero hl)⟩, fun g off e => by cases e⟩
  · have hlt := (Array.getElem?_eq_some_iff.1 hg).1
    refine ⟨_, cap, rfl, hnc, ⟨_, n, cap, rfl, hl, hnc, by unfold maxLen at hcm; omega, .inr ⟨g, 0, rfl, hlt, fun i t ht => ?_⟩⟩, fun g' off e => by cases e; exact ⟨hbg, hlt⟩⟩
    have hc := h.cells (g := g) rfl
    have c1 := hc i (.int .i64 t) (by rw [List.getElem?_map, ht]; rfl)
    rw [Go.WideShapes.add_plain] at c1
    exact c1

theorem nums_put {w : World} {a : Option Addr} {n c : Nat} {N : List Int} {q i : Nat} {x : Value} (h : NumsIn w (.slice a n c) N) (ha : ∀ g off, a = some ⟨g, off, none⟩ → g ≠ q) : NumsIn (w.setCell ⟨q, i, none⟩ x) (.slice a n c) N := by
  obtain ⟨a', n', c', hv, hl, h1, h2, hr⟩ := h
  injection hv with e1 e2 e3
  subst e1 e2 e3
  refine ⟨a, n, c, rfl, hl, h1, h2, hr.imp id ?_⟩
  rintro ⟨g, off, hga, hlt, hc⟩
  refine ⟨g, off, hga, by rw [World.size_setCell]; exact hlt, fun j t ht => ?_⟩
  rw [World.cell?_setCell_other _ _ _ _ (show (⟨q, i, none⟩ : Addr) ≠ ⟨g, off + j, none⟩ from fun e => ha g off hga (congrArg Addr.block e).symm)]
  exact hc j t ht
set_option maxRecDepth 100000 in
set_option maxHeartbeats 8000000 in
theorem row_one (a : Option Addr) (c : Nat) (v : ByteArray) (w : World) (hT : TextsIn w (.slice a 1 c) [bytes v]) (hv : v.size ≤ 1000000) :
    Calls Tryz.prog 49 #[.slice a 1 c] w fun e w' => ∃ b d, e = .returned (.agg #[.int .u8 68, .slice a 1 c, .slice b 2 d]) ∧ NumsIn w' (.slice b 2 d) [1, v.size] ∧ (∀ g off, b = some ⟨g, off, none⟩ → w.heap.size ≤ g) ∧ Below w.heap.size w w' := by
  obtain ⟨i0, hi, y0, y1, y2⟩ := info_parts info_int
  obtain ⟨a', n', c', hva, hl, hnc, hc9, hr⟩ := hT
  injection hva with e1 e2 e3
  subst e1 e2 e3
  obtain ⟨g, off, rfl, hg, hcell⟩ : ∃ g off, a = some ⟨g, off, none⟩ ∧ g < w.heap.size ∧ ∀ (i : Nat) (t : Bs), [bytes v][i]? = some t → w.cell? ⟨g, off + i, none⟩ = some (.string ⟨t.toArray⟩) := by
    rcases hr with hr | hr
    · cases hr
    · exact hr
  have c0 := hcell 0 _ rfl
  rw [show (⟨(bytes v).toArray⟩ : ByteArray) = v from by simp [bytes], Nat.add_zero] at c0
  have hnc' : (1 : Int) ≤ c := by omega
  obtain ⟨W1, hW1⟩ : ∃ W1, W1 = (w.alloc (.cells #[.int .u8 0, .slice none 0 0, .slice none 0 0] 39)).alloc (.cells #[.int .i64 1] 3) := ⟨_, rfl⟩
  have hz1 : W1.heap.size = w.heap.size + 1 + 1 := by rw [hW1]; simp
  have HB1 := Lib.hid (show Below w.heap.size w W1 by rw [hW1]; exact ((Below.refl _ _).alloc (Nat.le_refl _) _).alloc (by simp) _)
  have HO1 := Lib.hid (show W1.ownsRow (w.heap.size + 1) 3 1 (.slice (some ⟨w.heap.size + 1, 0, none⟩) 1 1) 1 [.int .i64 1] by
    rw [hW1]
    have := own_one (w.alloc (.cells #[.int .u8 0, .slice none 0 0, .slice none 0 0] 39)) (.int .i64 1) 3 (w.heap.size + 1) (by simp)
    rw [World.size_alloc] at this
    exact this)
  have HK1 := Lib.hid (show W1.cell? ⟨w.heap.size, 0, none⟩ = some (.int .u8 0) ∧ W1.frozen? ⟨w.heap.size, 0, none⟩ = false ∧ W1.frozen? ⟨w.heap.size, 1, none⟩ = false ∧ W1.frozen? ⟨w.heap.size, 2, none⟩ = false ∧ W1.cell? ⟨w.heap.size, 1, none⟩ = some (.slice none 0 0) ∧ W1.cell? ⟨w.heap.size, 2, none⟩ = some (.slice none 0 0) by rw [hW1]; simp [go_sem])
  have HE := Lib.hid hW1
  have HZ1 := Lib.hid hz1
  have HC0 := Lib.hid c0
  have HG := Lib.hid hg
  clear hW1 hz1 hcell hr c0 hg hl
  go_enter Tryz.func49, Tryz.ntmps49
  go_wp2_with fail
  rw [← HE.out]
  have hsz : (v.size : Int) ≤ 1000000 := by omega
  go_loopw [3, 11] (fun nv i wr => (i = .int .i64 0 ∧ nv = .slice (some ⟨w.heap.size + 1, 0, none⟩) 1 1 ∧ wr = W1) ∨ (i = .int .i64 1 ∧ wr.ownsRow (w.heap.size + 1) 3 1 nv 2 [.int .i64 1, .int .i64 v.size] ∧ Below w.heap.size w wr ∧ (wr.cell? ⟨w.heap.size, 0, none⟩ = some (.int .u8 0) ∧ wr.frozen? ⟨w.heap.size, 0, none⟩ = false ∧ wr.frozen? ⟨w.heap.size, 1, none⟩ = false ∧ wr.frozen? ⟨w.heap.size, 2, none⟩ = false ∧ wr.cell? ⟨w.heap.size, 1, none⟩ = some (.slice none 0 0) ∧ wr.cell? ⟨w.heap.size, 2, none⟩ = some (.slice none 0 0)))) (fun _ i _ => 1 - (RowKit.intOf i).toNat)
  case atStart => exact .inl ⟨rfl, rfl, rfl⟩
  case round =>
    rcases hrel with ⟨rfl, rfl, hwr⟩ | ⟨rfl, hO, hB, hK⟩
    · subst hwr
      have c0 := (HB1.out.cell (p := ⟨g, off, none⟩) HG.out).trans HC0.out
      have hlt0 : (0 : Int) < 1 := by omega
      go_wp2_with (at_builtin; refine wpList_append_at _ rfl (.tmp 15) (.tmp 18) 37 rfl (w.heap.size + 1) 3 i0 (.int .i64 0) 1 8 Tryz.underlying37 hi y0 y1 y2 rfl (by decide) _ 1 [.int .i64 1] rfl (HO1.out.alloc _) ⟨wr.heap.size, 0, none⟩ 1 1 [.int .i64 v.size] rfl rfl (fun j u hj => by
        match j, hj with
        | 0, hj => simp at hj; subst hj; simp [Addr.add, go_sem]
        | n + 1, hj => simp at hj) (by simp [Value.oneCell']) (by unfold maxLen; omega) (by omega) (by rw [World.size_alloc, HZ1.out]; omega) ?_)
      intro v3 w3 hO3 hg3 _
      have HO3 := Lib.hid hO3
      have HB3 := Lib.hid (show Below w.heap.size w w3 from (HB1.out.alloc HB1.out.size _).grown hg3 (Nat.le_trans HB1.out.size (by rw [World.size_alloc]; omega)) (fun k hk => by simp [Value.ownBlock] at hk; omega))
      have hk : ∀ i x, wr.cell? ⟨w.heap.size, i, none⟩ = some x → w3.cell? ⟨w.heap.size, i, none⟩ = some x := fun i x hx => hg3.cell ((World.cell?_alloc_lt _ _ _ (show w.heap.size < wr.heap.size by rw [HZ1.out]; omega)).trans hx) (by simp [Value.ownBlock])
      have hf : ∀ i, wr.frozen? ⟨w.heap.size, i, none⟩ = false → w3.frozen? ⟨w.heap.size, i, none⟩ = false := fun i hx => (World.frozen?_of_block (a := ⟨w.heap.size, i, none⟩) (hg3.block _ (by rw [World.size_alloc, HZ1.out]; show w.heap.size < _; omega) (by simp [Value.ownBlock]))).trans ((World.frozen?_of_block (a := ⟨w.heap.size, i, none⟩) (heap_alloc_old _ _ (show w.heap.size < wr.heap.size by rw [HZ1.out]; omega))).trans hx)
      have kk := HK1.out
      have HK3 := Lib.hid (show w3.cell? ⟨w.heap.size, 0, none⟩ = some (.int .u8 0) ∧ w3.frozen? ⟨w.heap.size, 0, none⟩ = false ∧ w3.frozen? ⟨w.heap.size, 1, none⟩ = false ∧ w3.frozen? ⟨w.heap.size, 2, none⟩ = false ∧ w3.cell? ⟨w.heap.size, 1, none⟩ = some (.slice none 0 0) ∧ w3.cell? ⟨w.heap.size, 2, none⟩ = some (.slice none 0 0) from ⟨hk _ _ kk.1, hf _ kk.2.1, hf _ kk.2.2.1, hf _ kk.2.2.2.1, hk _ _ kk.2.2.2.2.1, hk _ _ kk.2.2.2.2.2⟩)
      clear hO3 hg3 hk hf kk c0 hlt0
      go_wp2_with fail
      go_roundw
      case measure => first | omega | (simp [RowKit.intOf]; omega) | simp [RowKit.intOf]
      case rel => exact .inr ⟨by go_num, HO3.out, HB3.out, HK3.out⟩
    · have HO := Lib.hid hO; have HB := Lib.hid hB
      obtain ⟨b, d, rfl, hbd, hN, hba⟩ := own_numsG (N := [1, (v.size : Int)]) hO rfl
      obtain ⟨k0, f0, f1, f2, k1, k2⟩ := hK
      have HN := Lib.hid hN; have HBA := Lib.hid hba
      clear hO hB hN hba
      go_wp2_with fail
      simp [bodyPost, results, Tryz.results49, go_sem, k0, k1, k2]
      have hne : ∀ g off, b = some ⟨g, off, none⟩ → g ≠ w.heap.size := fun g off e => by have := (HBA.out g off e).1; omega
      exact ⟨b, d, ⟨rfl, rfl⟩, nums_put (nums_put (nums_put HN.out hne) hne) hne, fun g off e => by have := (HBA.out g off e).1; omega, ((HB.out.setCell (Nat.le_refl _) _).setCell (Nat.le_refl _) _).setCell (Nat.le_refl _) _⟩
end Go.Proofs.YtpijolcklmdjbaaGreatDoor

namespace Go.Proofs.YtpijolcklmdjbaaGreatDoor

/-- What is left of a body, and the texts and numbers so far. -/
structure RS where
  S : Bs
  T : List Bs
  N : List Int

def unsig : Bs → Nat
  | [] => 0
  | b :: l => b.toNat * 256 ^ l.length + unsig l
theorem unsig_lt : ∀ l : Bs, unsig l < 256 ^ l.length
  | [] => Nat.one_pos
  | b :: l => by
    have h1 := unsig_lt l
    have h2 : b.toNat < 256 := UInt8.toNat_lt b
    have h3 : b.toNat * 256 ^ l.length ≤ 255 * 256 ^ l.length := Nat.mul_le_mul_right _ (by omega)
    rw [unsig, List.length_cons, Nat.pow_succ]
    omega
theorem unsig_snoc : ∀ (l : Bs) (b : UInt8), unsig (l ++ [b]) = unsig l * 256 + b.toNat
  | [], b => by simp [unsig]
  | a :: l, b => by
    rw [List.cons_append, unsig, unsig_snoc l b, unsig, List.length_append, List.length_singleton, Nat.pow_succ, Nat.add_mul, Nat.mul_assoc, Nat.add_assoc]
theorem byteAt_toNat (n : Int) (i : Nat) : ((byteAt n i).toNat : Int) = (n / (256 ^ i : Nat)) % 256 := by
  unfold byteAt
  have h1 := Int.emod_nonneg (n / (256 ^ i : Nat)) (show (256 : Int) ≠ 0 by omega)
  have h2 := Int.emod_lt_of_pos (n / (256 ^ i : Nat)) (show (0 : Int) < 256 by omega)
  rw [UInt8.toNat_ofNat']
  have e : (n / (256 ^ i : Nat) % 256).toNat % 2 ^ 8 = (n / (256 ^ i : Nat) % 256).toNat := Nat.mod_eq_of_lt (by show _ < 256; omega)
  rw [e]
  omega
theorem unsig_be : ∀ (k : Nat) (n : Int), (unsig (be k n) : Int) = n % (256 ^ k : Nat)
  | 0, n => by simp [be, unsig, Int.emod_one]
  | k + 1, n => by
    rw [be, unsig, be_length, Int.natCast_add, Int.natCast_mul, byteAt_toNat, unsig_be k n, Nat.pow_succ]
    generalize hM : (256 ^ k : Nat) = M
    have hM0 : 0 < M := by rw [← hM]; exact Nat.pow_pos (by omega)
    have e1 := Int.emod_add_mul_ediv n (M : Int)
    have e2 := Int.emod_add_mul_ediv (n / (M : Int)) 256
    have r0 := Int.emod_nonneg n (show (M : Int) ≠ 0 by omega)
    have r1 := Int.emod_lt_of_pos n (show (0 : Int) < M by omega)
    have c0 := Int.emod_nonneg (n / (M : Int)) (show (256 : Int) ≠ 0 by omega)
    have c1 := Int.emod_lt_of_pos (n / (M : Int)) (show (0 : Int) < 256 by omega)
    generalize n / (M : Int) % 256 = c at *
    generalize n / (M : Int) / 256 = a at *
    generalize n / (M : Int) = q at *
    generalize n % (M : Int) = r at *
    have hc : c * (M : Int) ≤ 255 * M := Int.mul_le_mul_of_nonneg_right (by omega) (by omega)
    have hc0 : 0 ≤ c * (M : Int) := Int.mul_nonneg c0 (by omega)
    have e3 : n = (c * M + r) + ((M * 256 : Nat) : Int) * a := by
      rw [← e1, ← e2, Int.mul_add, Int.natCast_mul, Int.mul_assoc, Int.mul_comm c]
      show r + ((M : Int) * c + M * (256 * a)) = M * c + r + M * (256 * a)
      omega
    rw [e3, Int.add_mul_emod_self_left]
    exact (Int.emod_eq_of_lt (by omega) (by rw [Int.natCast_mul]; show _ < (M : Int) * 256; omega)).symm
theorem be_unsig : ∀ (l : Bs) (m : Int), be l.length (m * (256 ^ l.length : Nat) + unsig l) = l
  | [], _ => rfl
  | b :: l, m => by
    have hu := unsig_lt l
    have hb : b.toNat < 256 := UInt8.toNat_lt b
    have ih := be_unsig l (m * 256 + b.toNat)
    rw [List.length_cons, be, unsig, Nat.pow_succ]
    generalize hM : (256 ^ l.length : Nat) = M at *
    have hM0 : 0 < M := by rw [← hM]; exact Nat.pow_pos (by omega)
    have e : m * ((M * 256 : Nat) : Int) + ((b.toNat * M + unsig l : Nat) : Int) = (m * 256 + b.toNat) * M + unsig l := by
      rw [Int.natCast_add, Int.natCast_mul, Int.natCast_mul, Int.add_mul, Int.mul_assoc m 256, ← Int.mul_comm (M : Int) 256]
      show m * ((M : Int) * 256) + _ = _
      omega
    rw [e, ih]
    refine congrArg (· :: l) ?_
    apply UInt8.toNat_inj.1
    have := byteAt_toNat ((m * 256 + b.toNat) * (M : Int) + unsig l) l.length
    rw [hM, Int.add_comm, Int.add_mul_ediv_right _ _ (show (M : Int) ≠ 0 by omega), Int.ediv_eq_zero_of_lt (by omega) (by omega)] at this
    rw [← Int.add_comm (unsig l : Int)] 
    omega

/-- A number with its sign. -/
def sgnM (k : Nat) (n : Int) : Int := if ((256 ^ k : Nat) : Int) / 2 ≤ n then n - (256 ^ k : Nat) else n
theorem be_sgn (l : Bs) : be l.length (sgnM l.length (unsig l)) = l := by
  unfold sgnM
  split
  · have := be_unsig l (-1)
    rw [show (-1 : Int) * (256 ^ l.length : Nat) + unsig l = (unsig l : Int) - (256 ^ l.length : Nat) by omega] at this
    exact this
  · have := be_unsig l 0
    rw [Int.zero_mul, Int.zero_add] at this
    exact this
theorem sgn_be2 (n : Int) (h : -32768 ≤ n ∧ n ≤ 32767) : sgnM 2 (unsig (be 2 n)) = n := by
  rw [unsig_be]; unfold sgnM
  show (if (32768 : Int) ≤ n % 65536 then n % 65536 - 65536 else n % 65536) = n
  split <;> omega
theorem sgn_be4 (n : Int) (h : -2147483648 ≤ n ∧ n ≤ 2147483647) : sgnM 4 (unsig (be 4 n)) = n := by
  rw [unsig_be]; unfold sgnM
  show (if (2147483648 : Int) ≤ n % 4294967296 then n % 4294967296 - 4294967296 else n % 4294967296) = n
  split <;> omega
theorem unsig_be1 (n : Int) (h : 0 ≤ n ∧ n ≤ 255) : (unsig (be 1 n) : Int) = n := by
  rw [unsig_be]
  show n % 256 = n
  omega
end Go.Proofs.YtpijolcklmdjbaaGreatDoor
