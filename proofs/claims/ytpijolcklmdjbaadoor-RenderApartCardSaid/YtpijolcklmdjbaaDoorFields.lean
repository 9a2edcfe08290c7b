/- Tokens as text: scan.Fields. -/
import Derived.Test.YtpijolcklmdjbaaDoorKts
import Derived.Test.YtpijolcklmdjbaaDoorTold
import Derived.Test.YtpijolcklmdjbaaDoorDoubled
import Derived.Shelf.Strings.BuilderK
namespace Go.Proofs.YtpijolcklmdjbaaDoor
open Go.RowKit Go.Lib Go.WideShapes Go.Shelf

set_option maxRecDepth 100000 in
theorem lays166x : Go.Proofs.Lays.n166 Tryd.prog Tryd.lays155_ren := { Tryd.lays155 with }
set_option maxRecDepth 100000 in
theorem lays169x : Go.Proofs.Lays.n169 Tryd.prog Tryd.lays155_ren := { Tryd.lays155 with }
/-- A builder that the call itself made. -/
abbrev IsB (B b : Nat) (l : Bs) (w : World) : Prop := Lib.IsBuilderF 69 5 B b (Lib.byteCells l) w

theorem IsB.alloc {B b : Nat} {l : Bs} {w : World} (h : IsB B b l w) (o : Obj) : IsB B b l (w.alloc o) := h.elim (fun x => .inl (x.alloc o)) (fun x => .inr (x.alloc o))
theorem IsB.drewN {B b : Nat} {l : Bs} {w : World} (h : IsB B b l w) (n : Nat) : IsB B b l (w.drewN n) := h
theorem atF_below {T e : TypeId} {B b : Nat} {p : Value} {bs : List Value} {w w' : World} (h : Lib.BuilderAtF T e B b p bs w) (hb : Below w.heap.size w w') : Lib.BuilderAtF T e B b p bs w' := by
  obtain ⟨h0, v, h1, h2, h3⟩ := h
  exact ⟨h0, v, (hb.block b (Array.getElem?_eq_some_iff.1 h1).1).trans h1, h2.kept (grow_below hb none) (by cases v.ownBlock <;> simp), h3⟩
theorem IsB.below {B b : Nat} {l : Bs} {w w' : World} (h : IsB B b l w) (hb : Below w.heap.size w w') : IsB B b l w' := h.elim (fun x => .inl (atF_below x hb)) (fun x => .inr (atF_below x hb))
theorem isB_new (w : World) : IsB w.heap.size w.heap.size [] (w.alloc (.cells #[.pointer none, .slice none 0 0] 69)) :=
  .inl ⟨Nat.le_refl _, _, heap_alloc_new w _, World.ownsRowF_nil _ _ _ _, by simp [Value.ownBlock]⟩

theorem wr_string (B b : Nat) (l : Bs) (s : ByteArray) (w : World) (h : IsB B b l w) (hlen : l.length + s.size ≤ 100000000) (hBw : B ≤ w.heap.size) :
    Calls Tryd.prog 38 #[.pointer (some ⟨b, 0, none⟩), .string s] w fun e w' => e = .returned (.tuple #[.int .i64 s.size, .nilIface]) ∧ IsB B b (l ++ bytes s) w' ∧ Below B w w' := by
  refine (Any.Builder_WriteString_k lays166x Tryd.Builder_Extra_155 B b (Lib.byteCells l) s w h (by rw [Lib.byteCells_length]; omega) hBw).mono ?_
  rintro e w' ⟨rfl, h1, h2, _⟩
  exact ⟨rfl, .inr (by rw [Lib.byteCells_append]; exact h1), h2⟩

theorem str_of (B b : Nat) (l : Bs) (w : World) (h : IsB B b l w) (hBw : B ≤ w.heap.size) :
    Calls Tryd.prog 39 #[.pointer (some ⟨b, 0, none⟩)] w fun e w' => e = .returned (.string ⟨l.toArray⟩) ∧ Below B w w' := by
  refine (Any.Builder_String_any_k lays169x Tryd.Builder_Extra_155 B b l w h hBw).mono ?_
  rintro e w' ⟨rfl, _, h2, _⟩
  exact ⟨rfl, h2⟩

/-- A token as text. -/
def fieldT (q : Tok) : Bs := if q.kind = 113 then quoted 34 q.text else if q.kind = 115 then quoted 39 q.text else q.text
def fieldsB : List Tok → Bs
  | [] => []
  | t :: r => fieldT t ++ r.flatMap fun q => 32 :: fieldT q
theorem fieldsB_snoc (A : List Tok) (t : Tok) : fieldsB (A ++ [t]) = fieldsB A ++ ((if A = [] then [] else [32]) ++ fieldT t) := by
  cases A with
  | nil => simp [fieldsB]
  | cons x r => simp [fieldsB]
theorem fieldT_length {q : Tok} (h : q.text.length ≤ 2000) : (fieldT q).length ≤ 4002 := by
  have hq : ∀ c, (quoted c q.text).length ≤ 4002 := fun c => by
    unfold quoted
    rw [List.length_cons, List.length_append, doubled_length]
    have := List.count_le_length (a := c) (l := q.text)
    simp; omega
  unfold fieldT
  split
  · exact hq 34
  · split
    · exact hq 39
    · omega
theorem fieldsB_take (T : List Tok) (h : ∀ q ∈ T, q.text.length ≤ 2000) : ∀ k, k ≤ T.length → (fieldsB (T.take k)).length ≤ 4003 * k := by
  intro k
  induction k with
  | zero => intro _; simp [fieldsB]
  | succ k ih =>
    intro hk
    have hk' : k < T.length := hk
    rw [List.take_succ_eq_append_getElem hk', fieldsB_snoc, List.length_append, List.length_append]
    have h1 := fieldT_length (h T[k] (List.getElem_mem hk'))
    have h2 : (if T.take k = [] then ([] : Bs) else [32]).length ≤ 1 := by split <;> simp
    have := ih (by omega)
    omega
end Go.Proofs.YtpijolcklmdjbaaDoor
