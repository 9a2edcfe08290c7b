/- A reader that a caller made, beside a row of frames that it took: what each call leaves of both; what a reader has told of all that it was fed. -/
import Derived.Test.YtjohgfcfnlilmaaAll
import Derived.Test.YtjohgfcfnlilmaaNextA
import Derived.Test.YtjohgfcfnlilmaaNextB
import Derived.Test.YtjohgfcfnlilmaaNextC
namespace Go.Proofs.Ytjohgfcfnlilmaa
open Go.RowKit Go.Lib Go.WideShapes

theorem frameE_range (s : ByteArray) (b : Bool) : 0 ≤ frameE s b ∧ frameE s b < 5 := by
  unfold frameE
  repeat' split
  all_goals omega

theorem frameB_size {s : ByteArray} {b : Bool} (h : frameE s b = 0) : (frameB s b).size ≤ 10000 := by
  have g := good_frame h
  have hn := headN_ge b
  unfold frameB
  rw [ByteArray.size_extract]
  unfold frameN at g ⊢
  omega

theorem ownsRow_turned {w w' : World} {base size n p : Nat} {e : TypeId} {o : Value} {xs : List Value} {row : Option Nat} (h : w.ownsRow base e size o n xs) (ht : Turned w w' p row) (hp : p < base) (hne : ∀ k, o.ownBlock = some k → some k ≠ row) :
    w'.ownsRow base e size o n xs := by
  refine ⟨h.1, ?_⟩
  rcases h.2 with hn | ⟨g, cap, cur, rfl, hb, hgg, rest⟩
  · exact .inl hn
  · refine .inr ⟨g, cap, cur, rfl, hb, ?_, rest⟩
    rw [ht.block g (Array.getElem?_eq_some_iff.1 hgg).1 (by omega) (hne g rfl)]
    exact hgg

/-- Rows of two kinds are two rows. -/
theorem rows_apart {w : World} {base size n p : Nat} {e u : TypeId} {o v : Value} {xs : List Value} {s : ByteArray} (h : w.ownsRow base e size o n xs) (hv : OwnB w u p v s) (hne : e ≠ u) : ∀ k, o.ownBlock = some k → some k ≠ v.ownBlock := by
  intro k hk hkv
  rcases h.2 with ⟨rfl, _⟩ | ⟨g, cap, cur, rfl, hb, hgg, rest⟩
  · simp [Value.ownBlock] at hk
  · simp [Value.ownBlock] at hk
    subst hk
    rcases hv with ⟨rfl, _⟩ | ⟨g', o', cap', cur', rfl, _, h1, _⟩
    · simp [Value.ownBlock] at hkv
    · simp [Value.ownBlock] at hkv
      subst hkv
      rw [hgg] at h1
      simp at h1
      exact hne h1.2

/-- The reader at p holds s (bare or not, ended by er or not), the row o holds the frames of g, and nothing that was there before both has changed. -/
structure Has (w1 wr : World) (s : ByteArray) (b : Bool) (er : Int) (o : Value) (g : List (Nat × ByteArray)) : Prop where
  reader : ∃ v, RIs wr w1.heap.size v s b er ∧ (∀ k, v.ownBlock = some k → w1.heap.size ≤ k)
  below : Below w1.heap.size w1 wr
  lt : w1.heap.size < wr.heap.size
  row : wr.ownsRow (w1.heap.size + 1) 23 2 o g.length (frameCells g)

theorem Has.grown {w1 wr w' : World} {s : ByteArray} {b : Bool} {er : Int} {o : Value} {g : List (Nat × ByteArray)} (h : Has w1 wr s b er o g) (hb : Below wr.heap.size wr w') : Has w1 w' s b er o g := by
  obtain ⟨⟨v, hR, hv⟩, hB, hz, hO⟩ := h
  exact ⟨⟨v, hR.grown hb, hv⟩, hB.step hb hB.size, by have := hb.size; omega,
    hO.kept (w' := w') (row := none) ⟨hb.os, hb.tape, hb.output, hb.size, fun k hk _ => hb.block k hk⟩ (by cases o.ownBlock <;> simp)⟩

theorem Has.alloc {w1 wr : World} {s : ByteArray} {b : Bool} {er : Int} {o : Value} {g : List (Nat × ByteArray)} (h : Has w1 wr s b er o g) (x : Obj) : Has w1 (wr.alloc x) s b er o g :=
  h.grown ((Below.refl _ _).alloc (Nat.le_refl _) _)

theorem has_new (w1 : World) (b : Bool) : Has w1 (w1.alloc (.cells #[.slice none 0 0, .bool b, .int .i64 0] 62)) { data := #[] } b 0 (.slice none 0 0) [] :=
  ⟨⟨_, one_reader w1 b, by simp [Value.ownBlock]⟩, (Below.refl _ _).alloc (Nat.le_refl _) _, by simp, World.ownsRow_nil _ _ _ _⟩

theorem has_feed {w1 wr : World} {s x : ByteArray} {b : Bool} {o : Value} {g : List (Nat × ByteArray)} (h : Has w1 wr s b 0 o g) (hx : x.size ≤ 140737488355328) (hb : s.size + x.size ≤ 200000000000000) :
    Calls Try.prog 19 #[.pointer (some ⟨w1.heap.size, 0, none⟩), .string x] wr fun e w' => e = .returned (.tuple #[]) ∧ Has w1 w' (s ++ x) b 0 o g := by
  obtain ⟨⟨v, hR, hv⟩, hB, hz, hO⟩ := h
  refine (feed_wide w1.heap.size v s x b wr hR hx hb).mono ?_
  rintro e w' ⟨rfl, v', hR', hT, hs⟩
  exact ⟨rfl, ⟨v', hR', fun k hk => (hs k hk).elim (hv k) (fun h => by omega)⟩, hB.trans (hT.below hB.size (Nat.le_refl _) hv), by have := hT.size; omega,
    ownsRow_turned hO hT (by omega) (rows_apart hO hR.own (by decide))⟩

theorem has_fed_ended {w1 wr : World} {s x : ByteArray} {b : Bool} {er : Int} {o : Value} {g : List (Nat × ByteArray)} (h : Has w1 wr s b er o g) (he : ¬ er = 0) :
    Calls Try.prog 19 #[.pointer (some ⟨w1.heap.size, 0, none⟩), .string x] wr fun e w' => e = .returned (.tuple #[]) ∧ Has w1 w' s b er o g := by
  have H := h
  obtain ⟨⟨v, hR, hv⟩, hB, hz, hO⟩ := h
  refine (feed_ended w1.heap.size v s x b er wr hR he).mono ?_
  rintro e w' ⟨rfl, rfl⟩
  exact ⟨rfl, H⟩

theorem has_left {w1 wr : World} {s : ByteArray} {b : Bool} {er : Int} {o : Value} {g : List (Nat × ByteArray)} (h : Has w1 wr s b er o g) :
    Calls Try.prog 22 #[.pointer (some ⟨w1.heap.size, 0, none⟩)] wr fun e w' => e = .returned (.int .i64 s.size) ∧ wr = w' := by
  obtain ⟨⟨v, hR, hv⟩, hB, hz, hO⟩ := h
  exact left_any w1.heap.size v s b er wr hR

/-- The row grew by a frame, and nothing else turned. -/
theorem Has.put {w1 wr w' : World} {s : ByteArray} {b : Bool} {er : Int} {o o' : Value} {g g' : List (Nat × ByteArray)} (h : Has w1 wr s b er o g) (hO : w'.ownsRow (w1.heap.size + 1) 23 2 o' g'.length (frameCells g')) (hg : wr.grownBy w' o.ownBlock) : Has w1 w' s b er o' g' := by
  obtain ⟨⟨v, hR, hv⟩, hB, hz, hO0⟩ := h
  have hlt := hO0.lt
  have hap := rows_apart hO0 hR.own (by decide)
  refine ⟨⟨v, ⟨(hg.block _ hz (fun e => by have := (hlt _ e.symm).1; omega)).trans hR.heap, hR.own.kept (fun k hk => hg.block k (hR.own.lt k hk) (fun e => hap k e.symm hk.symm))⟩, hv⟩, ?_, by have := hg.size; omega, hO⟩
  exact hB.trans ⟨hg.os, hg.tape, hg.output, hg.size, fun k hk => hg.block k (by have := hB.size; omega) (fun e => by have := (hlt k e.symm).1; omega)⟩

/-- What a reader stands for: all that it was fed, the frames that it told, what it holds, whether the next is bare, the error that ended it. -/
def Stand (all : ByteArray) (bare : Bool) (g : List (Nat × ByteArray)) (s : ByteArray) (b : Bool) (er : Int) : Prop :=
  (er = 0 ∧ Steps all bare g s b) ∨ (¬ er = 0 ∧ ¬ er = 4 ∧ s = { data := #[] } ∧ ∃ s', Steps all bare g s' b ∧ frameE s' b = er)

theorem Stand.fed {all s x : ByteArray} {bare b : Bool} {g : List (Nat × ByteArray)} (h : Stand all bare g s b 0) : Stand (all ++ x) bare g (s ++ x) b 0 := by
  rcases h with ⟨_, h⟩ | ⟨h, _⟩
  · exact .inl ⟨rfl, h.more x⟩
  · exact absurd rfl h

theorem Stand.fed_ended {all s x : ByteArray} {bare b : Bool} {er : Int} {g : List (Nat × ByteArray)} (h : Stand all bare g s b er) (he : ¬ er = 0) : Stand (all ++ x) bare g s b er := by
  rcases h with ⟨h, _⟩ | ⟨h1, h2, h3, s', hS, hE⟩
  · exact absurd h he
  · exact .inr ⟨h1, h2, h3, s' ++ x, hS.more x, by rw [frameE_app s' x b (by rw [hE]; exact h2)]; exact hE⟩

/-- What Next tells: a frame (E = 0), that it needs more (E = 4), or an error. -/
def Told (all : ByteArray) (bare : Bool) (g : List (Nat × ByteArray)) (E : Int) (T : Nat) (B : ByteArray) (s' : ByteArray) (b' : Bool) (er' : Int) : Prop :=
  (E = 0 ∧ er' = 0 ∧ Stand all bare (g ++ [(T, B)]) s' b' er') ∨ (¬ E = 0 ∧ T = 0 ∧ B = { data := #[] } ∧ er' = (if E = 4 then 0 else E) ∧ Stand all bare g s' b' er' ∧ ∃ s2, Steps all bare g s2 b' ∧ frameE s2 b' = E ∧ s' = (if E = 4 then s2 else { data := #[] }))

theorem has_next {w1 wr : World} {all s : ByteArray} {bare b : Bool} {er : Int} {o : Value} {g : List (Nat × ByteArray)} (h : Has w1 wr s b er o g) (hS : Stand all bare g s b er) :
    ∃ (E : Int) (T : Nat) (B s' : ByteArray) (b' : Bool) (er' : Int), Told all bare g E T B s' b' er' ∧ 0 ≤ E ∧ E < 5 ∧ T < 256 ∧ B.size ≤ 10000 ∧
      Calls Try.prog 20 #[.pointer (some ⟨w1.heap.size, 0, none⟩)] wr fun e w' => e = .returned (.tuple #[.agg #[.int .u8 (T : Nat), .string B], .int .i64 E]) ∧ Has w1 w' s' b' er' o g := by
  have H := h
  obtain ⟨⟨v, hR, hv⟩, hB, hz, hO⟩ := h
  rcases hS with ⟨rfl, hS⟩ | ⟨h1, h2, rfl, s2, hS, hE⟩
  · have hrange := frameE_range s b
    by_cases hE : frameE s b = 0
    · have hg := good_frame hE
      refine ⟨0, headT s b, frameB s b, _, false, 0, .inl ⟨rfl, rfl, .inl ⟨rfl, hS.snoc hE⟩⟩, by omega, by omega, headT_lt s b, frameB_size hE, (next_good w1.heap.size v s b wr hR hE).mono ?_⟩
      rintro e w' ⟨rfl, v', hR', hT, hs⟩
      exact ⟨rfl, ⟨v', hR', fun k hk => hv k (hs k hk)⟩, hB.trans (hT.below hB.size (Nat.le_refl _) (by simp)), by have := hT.size; omega, ownsRow_turned hO hT (by omega) (by simp)⟩
    · by_cases h4 : frameE s b = 4
      · refine ⟨4, 0, { data := #[] }, s, b, 0, .inr ⟨by omega, rfl, rfl, rfl, .inl ⟨rfl, hS⟩, s, hS, h4, rfl⟩, by omega, by omega, by omega, by decide, (next_more w1.heap.size v s b wr hR h4).mono ?_⟩
        rintro e w' ⟨rfl, hb⟩
        exact ⟨rfl, H.grown hb⟩
      · refine ⟨frameE s b, 0, { data := #[] }, { data := #[] }, b, frameE s b, .inr ⟨hE, rfl, rfl, by rw [if_neg h4], .inr ⟨hE, h4, rfl, s, hS, rfl⟩, s, hS, rfl, by rw [if_neg h4]⟩, hrange.1, hrange.2, by omega, by decide, (next_wrong w1.heap.size v s b _ wr hR rfl hE h4).mono ?_⟩
        rintro e w' ⟨rfl, v', hR', hT, hs⟩
        exact ⟨rfl, ⟨v', hR', fun k hk => hv k (hs k hk)⟩, hB.trans (hT.below hB.size (Nat.le_refl _) (by simp)), by have := hT.size; omega, ownsRow_turned hO hT (by omega) (by simp)⟩
  · have hrange := frameE_range s2 b
    refine ⟨er, 0, { data := #[] }, { data := #[] }, b, er, .inr ⟨h1, rfl, rfl, by rw [if_neg h2], .inr ⟨h1, h2, rfl, s2, hS, hE⟩, s2, hS, hE, by rw [if_neg h2]⟩, by omega, by omega, by omega, by decide, (next_ended w1.heap.size v _ b er wr hR h1).mono ?_⟩
    rintro e w' ⟨rfl, hb⟩
    exact ⟨rfl, H.grown hb⟩

/-- Each frame takes five bytes or more, but for a bare one. -/
theorem Steps.five {s : ByteArray} {b : Bool} {got : List (Nat × ByteArray)} {s' : ByteArray} {b' : Bool} (h : Steps s b got s' b') : 5 * got.length + s'.size ≤ s.size + (if b then 1 else 0) := by
  induction h with
  | none => simp
  | @one s b got s' b' h t ih =>
    have g := good_frame h
    have hN : 5 ≤ frameN s b + (if b then 1 else 0) := by
      cases b with
      | true => simp [frameN, headN] at g ⊢; omega
      | false => simp [frameN, headN] at g ⊢; omega
    have hz : (s.extract (frameN s b) s.size).size = s.size - frameN s b := by simp
    rw [List.length_cons]
    simp only [Bool.false_eq_true, if_false] at ih
    omega
end Go.Proofs.Ytjohgfcfnlilmaa
