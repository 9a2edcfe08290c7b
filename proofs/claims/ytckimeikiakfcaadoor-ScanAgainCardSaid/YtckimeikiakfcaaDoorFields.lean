/- Tokens as text: scan.Fields. -/
import Derived.Test.YtckimeikiakfcaaDoorKts
import Derived.Test.YtckimeikiakfcaaDoorTold
import Derived.Test.YtckimeikiakfcaaDoorDoubled
import Derived.Shelf.Strings.BuilderK
namespace Go.Proofs.YtckimeikiakfcaaDoor
open Go.RowKit Go.Lib Go.WideShapes Go.Shelf

def lays167r : Go.Shelf.Ren := ⟨fun | 167 => 17 | n => Tryd.lays155_ren.f n, Tryd.lays155_ren.t, Tryd.lays155_ren.g⟩
theorem lays167x : Go.Proofs.Lays.n167 Tryd.prog lays167r := { Tryd.lays155 with
  f167 := Tryd.func17.trans (congrArg some (by kernel_rfl))
  f240 := Tryd.func28.trans (congrArg some (by kernel_rfl))
  f276 := Tryd.func47.trans (congrArg some (by kernel_rfl)) }
theorem lays166x : Go.Proofs.Lays.n166 Tryd.prog Tryd.lays155_ren := { Tryd.lays155 with }
theorem lays169x : Go.Proofs.Lays.n169 Tryd.prog Tryd.lays155_ren := { Tryd.lays155 with }
theorem extra167 : Go.Proofs.Builder.Extra Tryd.prog lays167r := { Tryd.Builder_Extra_155 with }

set_option maxHeartbeats 2000000 in
/-- A text between two marks, each mark in it twice. -/
theorem squote_any (c : UInt8) (s : ByteArray) (m : Int) (w : World) (hs : s.size ≤ 100000) (hm : w.cell? ⟨0, 0, none⟩ = some (.int .i64 m)) :
    Calls Tryd.prog 19 #[.string s, .string ⟨#[c]⟩] w fun e w' => e = .returned (.string ⟨(c :: (doubled c (bytes s) ++ [c])).toArray⟩) ∧ Below w.heap.size w w' := by
  have hR := Tryd.strings_ReplaceAll s ⟨#[c]⟩ ⟨#[c, c]⟩ m w (by omega) hm (by show 1 ≤ 1; omega) (by have := countB_one s c; show s.size + Lib.countB s ⟨#[c]⟩ * 2 ≤ _; omega)
  rw [show Lib.replaceAll s.data.toList (⟨#[c]⟩ : ByteArray).data.toList (⟨#[c, c]⟩ : ByteArray).data.toList = doubled c (bytes s) from replaceAll_doubled c _] at hR
  have hl : (doubled c (bytes s)).length ≤ 200000 := by
    rw [doubled_length, bytes_len]
    have : (bytes s).count c ≤ (bytes s).length := List.count_le_length
    rw [bytes_len] at this; omega
  have HR := Lib.hid hR
  generalize doubled c (bytes s) = D at HR hl ⊢
  clear hR hm
  obtain ⟨X, hX⟩ : ∃ X : ByteArray, X = ⟨D.toArray⟩ := ⟨_, rfl⟩
  have hXs : X.size ≤ 200000 := by rw [hX, str_size]; exact hl
  have HX := Lib.hid (show (⟨#[c]⟩ : ByteArray) ++ X ++ ⟨#[c]⟩ = ⟨(c :: (D ++ [c])).toArray⟩ by rw [hX, show (⟨#[c]⟩ : ByteArray) = ⟨[c].toArray⟩ from rfl, str_cat, str_cat]; rfl)
  rw [← hX] at HR
  clear hX hl
  go_enter Tryd.func19, Tryd.ntmps19
  go_wp2_with fail
  refine HR.out.mono ?_; rintro e w1 ⟨rfl, hb1⟩
  have HB1 := Lib.hid hb1
  clear hb1 HR
  go_wp2_with fail
  go_ret
  exact ⟨by rw [← HX.out]; rfl, HB1.out⟩

/-- A builder that the call itself made. -/
abbrev IsB (B b : Nat) (l : Bs) (w : World) : Prop := Lib.IsBuilderF 47 5 B b (Lib.byteCells l) w

theorem IsB.alloc {B b : Nat} {l : Bs} {w : World} (h : IsB B b l w) (o : Obj) : IsB B b l (w.alloc o) := h.elim (fun x => .inl (x.alloc o)) (fun x => .inr (x.alloc o))
theorem IsB.drewN {B b : Nat} {l : Bs} {w : World} (h : IsB B b l w) (n : Nat) : IsB B b l (w.drewN n) := h
theorem atF_below {T e : TypeId} {B b : Nat} {p : Value} {bs : List Value} {w w' : World} (h : Lib.BuilderAtF T e B b p bs w) (hb : Below w.heap.size w w') : Lib.BuilderAtF T e B b p bs w' := by
  obtain ⟨h0, v, h1, h2, h3⟩ := h
  exact ⟨h0, v, (hb.block b (Array.getElem?_eq_some_iff.1 h1).1).trans h1, h2.kept (grow_below hb none) (by cases v.ownBlock <;> simp), h3⟩
theorem IsB.below {B b : Nat} {l : Bs} {w w' : World} (h : IsB B b l w) (hb : Below w.heap.size w w') : IsB B b l w' := h.elim (fun x => .inl (atF_below x hb)) (fun x => .inr (atF_below x hb))
theorem isB_new (w : World) : IsB w.heap.size w.heap.size [] (w.alloc (.cells #[.pointer none, .slice none 0 0] 47)) :=
  .inl ⟨Nat.le_refl _, _, heap_alloc_new w _, World.ownsRowF_nil _ _ _ _, by simp [Value.ownBlock]⟩

theorem wr_byte (B b : Nat) (l : Bs) (c : UInt8) (w : World) (h : IsB B b l w) (hlen : l.length ≤ 100000000) (hBw : B ≤ w.heap.size) :
    Calls Tryd.prog 17 #[.pointer (some ⟨b, 0, none⟩), .int .u8 (c.toNat : Nat)] w fun e w' => e = .returned .nilIface ∧ IsB B b (l ++ [c]) w' ∧ Below B w w' ∧ Lib.OthersKept 5 (some b) w w' := by
  refine (Any.Builder_WriteByte_k lays167x extra167 B b (Lib.byteCells l) (c.toNat : Nat) w h (by rw [Lib.byteCells_length]; omega) hBw).mono ?_
  rintro e w' ⟨rfl, h1, h2, h3⟩
  exact ⟨rfl, .inr (by rw [Lib.byteCells_append]; exact h1), h2, h3⟩

theorem wr_string (B b : Nat) (l : Bs) (s : ByteArray) (w : World) (h : IsB B b l w) (hlen : l.length + s.size ≤ 100000000) (hBw : B ≤ w.heap.size) :
    Calls Tryd.prog 18 #[.pointer (some ⟨b, 0, none⟩), .string s] w fun e w' => e = .returned (.tuple #[.int .i64 s.size, .nilIface]) ∧ IsB B b (l ++ bytes s) w' ∧ Below B w w' := by
  refine (Any.Builder_WriteString_k lays166x Tryd.Builder_Extra_155 B b (Lib.byteCells l) s w h (by rw [Lib.byteCells_length]; omega) hBw).mono ?_
  rintro e w' ⟨rfl, h1, h2, _⟩
  exact ⟨rfl, .inr (by rw [Lib.byteCells_append]; exact h1), h2⟩

theorem str_of (B b : Nat) (l : Bs) (w : World) (h : IsB B b l w) (hBw : B ≤ w.heap.size) :
    Calls Tryd.prog 20 #[.pointer (some ⟨b, 0, none⟩)] w fun e w' => e = .returned (.string ⟨l.toArray⟩) ∧ Below B w w' := by
  refine (Any.Builder_String_any_k lays169x Tryd.Builder_Extra_155 B b l w h hBw).mono ?_
  rintro e w' ⟨rfl, _, h2, _⟩
  exact ⟨rfl, h2⟩

/-- A token as text. -/
def fieldT (q : Tok) : Bs := if q.kind = 113 then quoted 34 q.text else if q.kind = 115 then quoted 39 q.text else q.text
def fieldsB : List Tok → Bs
  | [] => []
  | t :: r => fieldT t ++ r.flatMap fun q => 32 :: fieldT q
theorem fieldsB_snoc (A : List Tok) (t : Tok) : fieldsB (A ++ [t]) = fieldsB A ++ ((if A = [] then [] else [32]) ++ fieldT t) := by
  cases A with
  | nil => simp [fieldsB]
  | cons x r => simp [fieldsB]
theorem fieldT_length {q : Tok} (h : q.text.length ≤ 2000) : (fieldT q).length ≤ 4002 := by
  have hq : ∀ c, (quoted c q.text).length ≤ 4002 := fun c => by
    unfold quoted
    rw [List.length_cons, List.length_append, doubled_length]
    have := List.count_le_length (a := c) (l := q.text)
    simp; omega
  unfold fieldT
  split
  · exact hq 34
  · split
    · exact hq 39
    · omega
theorem fieldsB_take (T : List Tok) (h : ∀ q ∈ T, q.text.length ≤ 2000) : ∀ k, k ≤ T.length → (fieldsB (T.take k)).length ≤ 4003 * k := by
  intro k
  induction k with
  | zero => intro _; simp [fieldsB]
  | succ k ih =>
    intro hk
    have hk' : k < T.length := hk
    rw [List.take_succ_eq_append_getElem hk', fieldsB_snoc, List.length_append, List.length_append]
    have h1 := fieldT_length (h T[k] (List.getElem_mem hk'))
    have h2 : (if T.take k = [] then ([] : Bs) else [32]).length ≤ 1 := by split <;> simp
    have := ih (by omega)
    omega
end Go.Proofs.YtckimeikiakfcaaDoor
