/- Contracts and mathematics: NTakesM, Fields, Parts, FirstM, Clone, Index. -/
import Derived.Test.YtgopajddloeclaaDoorZ20
import Derived.Test.YtgopajddloeclaaDoorZ12
import Derived.Test.YtgopajddloeclaaDoorZ4
import Derived.Shelf.Strings.BuilderK
import Derived.BigQuiet
import Derived.Deep.QuietTactic
import Derived.StillTailTactics
import Derived.WalkSpells
namespace Go.Proofs.YtgopajddloeclaaDoor
open Go.RowKit Go.Lib Go.WideShapes

theorem kts_tokens {l : Bs} {L : List Tok} (h : tokens l = some L) : kts l = some (L.map kt) := by
  unfold tokens at h
  split at h
  · cases h
  · unfold kts; rw [h]; rfl

theorem qt_length (mark : UInt8) (esc : Bool) : ∀ (n : Nat) (l t r : Bs), l.length ≤ n → qt mark esc l = some (t, r) → t.length ≤ l.length := by
  intro n
  induction n with
  | zero =>
    intro l t r hl h
    obtain rfl : l = [] := List.length_eq_zero_iff.1 (by omega)
    cases h
  | succ n ih =>
    intro l t r hl h
    match l, hl, h with
    | [], _, h => cases h
    | [x], _, h =>
      rw [qt_one] at h
      split at h
      · cases h
      · split at h
        · cases h; simp
        · rw [show qt mark esc [] = none from rfl] at h; cases h
    | x :: y :: q, hl, h =>
      rw [qt_two] at h
      split at h
      · cases hq : qt mark esc q with
        | none => rw [hq] at h; cases h
        | some p =>
          obtain ⟨p1, p2⟩ := p
          rw [hq] at h; cases h
          have := ih q p1 p2 (by simp at hl; omega) hq
          simp; omega
      · split at h
        · split at h
          · cases hq : qt mark esc q with
            | none => rw [hq] at h; cases h
            | some p =>
              obtain ⟨p1, p2⟩ := p
              rw [hq] at h; cases h
              have := ih q p1 p2 (by simp at hl; omega) hq
              simp; omega
          · cases h; simp
        · cases hq : qt mark esc (y :: q) with
          | none => rw [hq] at h; cases h
          | some p =>
            obtain ⟨p1, p2⟩ := p
            rw [hq] at h; cases h
            have := ih (y :: q) p1 p2 (by simp at hl ⊢; omega) hq
            simp at this ⊢; omega

theorem takeWhile_length (p : UInt8 → Bool) (l : Bs) : (l.takeWhile p).length ≤ l.length := (List.takeWhile_prefix p).length_le

theorem token_length {l : Bs} {k : UInt8} {t r : Bs} (h : token l = some (k, t, r)) : t.length ≤ l.length := by
  cases l with
  | nil => cases h
  | cons b q =>
    rw [token_cons] at h
    split at h
    · cases hq : qt 39 true q.tail with
      | none => rw [hq] at h; cases h
      | some p =>
        obtain ⟨p1, p2⟩ := p
        rw [hq] at h; cases h
        have := qt_length 39 true _ _ _ _ (Nat.le_refl _) hq
        rw [List.length_tail] at this
        show p1.length ≤ _
        rw [List.length_cons]; omega
    · split at h
      · cases h
        rw [List.length_map]
        exact takeWhile_length _ _
      · split at h
        · cases hq : qt 34 false q with
          | none => rw [hq] at h; cases h
          | some p =>
            obtain ⟨p1, p2⟩ := p
            rw [hq] at h
            have := qt_length 34 false _ _ _ _ (Nat.le_refl _) hq
            have h : (if p1 = [] then none else some (113, p1, p2)) = some (k, t, r) := h
            split at h
            · cases h
            · cases h; rw [List.length_cons]; omega
        · split at h
          · cases hq : qt 39 false q with
            | none => rw [hq] at h; cases h
            | some p =>
              obtain ⟨p1, p2⟩ := p
              rw [hq] at h; cases h
              have := qt_length 39 false _ _ _ _ (Nat.le_refl _) hq
              show p1.length ≤ _
              rw [List.length_cons]; omega
          · split at h
            · cases h; rw [List.length_take]; omega
            · cases ht : tagOf (b :: q) with
              | none => rw [ht] at h; cases h; simp
              | some tg =>
                rw [ht] at h
                have h : (find tg ((b :: q).drop tg.length)).map _ = some (k, t, r) := h
                cases hf : find tg ((b :: q).drop tg.length) with
                | none => rw [hf] at h; cases h
                | some n =>
                  rw [hf] at h; cases h
                  rw [List.length_take, List.length_drop]; omega

theorem toks_texts : ∀ (f n : Nat) (l : Bs) (L : List Tok), toks f n l = some L → ∀ q ∈ L, q.text.length ≤ l.length := by
  intro f
  induction f with
  | zero => intro n l L h; cases h
  | succ f ih =>
    intro n l L h
    rw [toks_tk] at h
    cases hs : sk l 0 with
    | none => rw [hs] at h; cases h
    | some q =>
      rw [hs] at h
      obtain ⟨j, hj, hjl⟩ := sk_sub l q hs
      have h0 := congrArg List.length hj
      rw [List.length_drop] at h0
      cases q with
      | nil => cases h; intro q hq; cases hq
      | cons a q =>
        have h : tk f n (a :: q) = some L := h
        rw [tk] at h
        cases ht : token (a :: q) with
        | none => rw [ht] at h; cases h
        | some p =>
          obtain ⟨k, t, r⟩ := p
          obtain ⟨e, he1, he, hel⟩ := token_sub ht
          have h1 := congrArg List.length he
          rw [List.length_drop] at h1
          rw [ht] at h
          have h : (toks f n r).map _ = some L := h
          cases hr : toks f n r with
          | none => rw [hr] at h; cases h
          | some ts' =>
            rw [hr] at h
            cases h
            intro x hx
            rcases List.mem_cons.1 hx with rfl | hx
            · have := token_length ht
              show t.length ≤ l.length
              omega
            · have := ih n r ts' hr x hx; omega

theorem tokens_texts {l : Bs} {L : List Tok} (h : tokens l = some L) : ∀ q ∈ L, q.text.length ≤ l.length := by
  unfold tokens at h
  split at h
  · cases h
  · exact toks_texts _ _ _ _ h

theorem kts_some {l r : Bs} {x : UInt8 × Bs} {K : List (UInt8 × Bs)} (h : kts l = (kts r).map (x :: ·)) (hl : kts l = some K) : ∃ K', kts r = some K' ∧ K = x :: K' := by
  rw [h] at hl
  cases hr : kts r with
  | none => rw [hr] at hl; cases hl
  | some K' => rw [hr] at hl; exact ⟨K', rfl, (Option.some.inj hl).symm⟩

theorem part_low {l : Bs} (h : partB l = true) : foldB l = l := by
  unfold foldB
  rw [List.map_congr_left (g := id) (fun c hc => (part_facts h c hc).2.1), List.map_id]
theorem cut_back {l : Bs} (h : (46 : UInt8) ∈ l) : ∃ a b, l = a ++ 46 :: b ∧ (46 : UInt8) ∉ a := by
  induction l with
  | nil => cases h
  | cons x r ih =>
    by_cases hx : x = 46
    · subst hx; exact ⟨[], r, rfl, by simp⟩
    · rcases List.mem_cons.1 h with e | e
      · exact absurd e.symm hx
      · obtain ⟨a, b, rfl, hn⟩ := ih e
        exact ⟨x :: a, b, rfl, by simp [hn]; exact fun e => hx e.symm⟩
theorem good_low {l : Bs} (h : goodB l = true) : foldB l = l := by
  by_cases hd : (46 : UInt8) ∈ l
  · obtain ⟨a, b, rfl, hn⟩ := cut_back hd
    rw [goodB_two hn] at h
    simp only [Bool.and_eq_true] at h
    have e1 := part_low h.2.1
    have e2 := part_low h.2.2
    unfold foldB at e1 e2 ⊢
    rw [List.map_append, List.map_cons, e1, e2]; rfl
  · rw [goodB_one hd] at h
    simp only [Bool.and_eq_true] at h
    exact part_low h.2
theorem good_some' {l : Bs} (h : goodB l = true) : l ≠ [] := fun e => by subst e; exact absurd h (by decide)
/-- Three names of which one is of the other two. -/
theorem good_parts {a b : Bs} (ha : goodB a = true) (hab : goodB (a ++ 46 :: b) = true) : partB a = true ∧ partB b = true := by
  by_cases hd : (46 : UInt8) ∈ a
  · obtain ⟨x, y, rfl, hn⟩ := cut_back hd
    rw [show x ++ 46 :: y ++ 46 :: b = x ++ 46 :: (y ++ 46 :: b) by simp, goodB_two hn, partB_dot (y ++ 46 :: b) (by simp)] at hab
    simp at hab
  · rw [goodB_two hd] at hab
    simp only [Bool.and_eq_true] at hab
    exact ⟨hab.2.1, hab.2.2⟩

theorem takeB_cases (T : List Tok) : takeB T = ([], 0) ∨ ∃ x n, takeB T = (x, n) ∧ goodB x = true ∧ n ≠ 0 := by
  unfold takeB
  cases hh : nmHead T && goodB (takes T).1 with
  | false => exact .inl rfl
  | true =>
    rw [if_pos rfl]
    rw [Bool.and_eq_true] at hh
    refine .inr ⟨(takes T).1, (takes T).2, rfl, hh.2, ?_⟩
    match T, hh.1 with
    | [t], _ => simp [takes]
    | [t, u], _ => simp [takes]
    | t :: u :: v :: r, _ => rw [takes_three]; split <;> simp

/-- What stands as a word or a name, and behind it something that is no point. -/
theorem take_one {L : List Tok} {k : UInt8} {a : Bs} {K : List (UInt8 × Bs)} (hk : k = 119 ∨ k = 113) (ha : goodB a = true) (h : L.map kt = (k, a) :: (111, [61]) :: K) : takeB L = (a, 1) := by
  match L, h with
  | q0 :: q1 :: L', h =>
    simp only [List.map_cons, List.cons.injEq, kt, Prod.mk.injEq] at h
    obtain ⟨⟨e0, e1⟩, ⟨e2, e3⟩, _⟩ := h
    have hn : nm q0 = true := by unfold nm; rw [e0]; rcases hk with rfl | rfl <;> rfl
    have ht : takes (q0 :: q1 :: L') = (a, 1) := by
      cases L' with
      | nil => show (foldB q0.text, 1) = _; rw [e1, good_low ha]
      | cons v r => rw [takes_short1 (.inr (.inl (by rw [e3]; rfl))), e1, good_low ha]
    rw [takeB_yes hn ht, ha]; rfl
theorem take_both {L : List Tok} {k k' : UInt8} {a b : Bs} {K : List (UInt8 × Bs)} (hk : k = 119 ∨ k = 113) (hk' : k' = 119 ∨ k' = 113) (hpa : partB a = true) (hpb : partB b = true) (hab : goodB (a ++ 46 :: b) = true) (h : L.map kt = (k, a) :: (111, [46]) :: (k', b) :: K) : takeB L = (a ++ 46 :: b, 3) := by
  match L, h with
  | [_, _], h => simp at h
  | q0 :: q1 :: q2 :: L', h =>
    simp only [List.map_cons, List.cons.injEq, kt, Prod.mk.injEq] at h
    obtain ⟨⟨e0, e1⟩, ⟨e2, e3⟩, ⟨e4, e5⟩, _⟩ := h
    have hn : nm q0 = true := by unfold nm; rw [e0]; rcases hk with rfl | rfl <;> rfl
    have hn2 : nm q2 = true := by unfold nm; rw [e4]; rcases hk' with rfl | rfl <;> rfl
    rw [takeB_yes hn (takes_long (by rw [e2]; rfl) (by rw [e3]; rfl) hn2), e1, e5, part_low hpa, part_low hpb, hab]; rfl

/-- An identifier, and = behind it. -/
theorem read_one {a more : Bs} {L : List Tok} (ha : goodB a = true) (h : tokens (identB a ++ 32 :: 61 :: 32 :: more) = some L) : takeB L = (a, 1) := by
  obtain ⟨k, x, q, hk, hi, hs, ht⟩ := ident_read a (32 :: 61 :: 32 :: more) (good_some' ha) ⟨by simp, by simp, fun c hc => by simp at hc; subst hc; rfl⟩
  have hK := kts_tokens h
  rw [hi] at hK
  obtain ⟨K1, h1, e1⟩ := kts_some (kts_step hs ht) hK
  obtain ⟨K2, _, e2⟩ := kts_some (kts_step (a := 61) (q := 32 :: more) (by rw [sk_blank' _ _ (by decide)]; exact sk_first (by decide) (fun e => by cases e.1) (fun e => by cases e.1)) (token_sign_read 61 _ (by decide) (by decide) (by decide) (by decide) (by intro e; rcases e with e | e; cases e; cases e.1) (by decide))) h1
  exact take_one hk ha (by rw [e1, e2])
/-- An identifier, a point, an identifier, and = behind it. -/
theorem read_both {a b more : Bs} {L : List Tok} (ha : goodB a = true) (hab : goodB (a ++ 46 :: b) = true) (h : tokens (identB a ++ 32 :: 46 :: 32 :: (identB b ++ 32 :: 61 :: 32 :: more)) = some L) : takeB L = (a ++ 46 :: b, 3) := by
  obtain ⟨hpa, hpb⟩ := good_parts ha hab
  obtain ⟨k, x, q, hk, hi, hs, ht⟩ := ident_read a (32 :: 46 :: 32 :: (identB b ++ 32 :: 61 :: 32 :: more)) (good_some' ha) ⟨by simp, by simp, fun c hc => by simp at hc; subst hc; rfl⟩
  obtain ⟨k', x', q', hk', hi', hs', ht'⟩ := ident_read b (32 :: 61 :: 32 :: more) (fun e => by rw [e] at hpb; cases hpb) ⟨by simp, by simp, fun c hc => by simp at hc; subst hc; rfl⟩
  have hK := kts_tokens h
  rw [hi] at hK
  obtain ⟨K1, h1, e1⟩ := kts_some (kts_step hs ht) hK
  obtain ⟨K2, h2, e2⟩ := kts_some (kts_step (a := 46) (q := 32 :: (identB b ++ 32 :: 61 :: 32 :: more)) (by rw [sk_blank' _ _ (by decide)]; exact sk_first (by decide) (fun e => by cases e.1) (fun e => by cases e.1)) (token_sign_read 46 _ (by decide) (by decide) (by decide) (by decide) (by intro e; rcases e with e | e; cases e; cases e.2) (by decide))) h1
  rw [hi'] at h2
  obtain ⟨K3, _, e3⟩ := kts_some (kts_step (by rw [sk_blank' _ _ (by decide)]; exact hs') ht') h2
  exact take_both hk hk' hpa hpb hab (by rw [e1, e2, e3])
end Go.Proofs.YtgopajddloeclaaDoor

namespace Go.Proofs.YtgopajddloeclaaDoor
open Go.RowKit Go.Lib Go.WideShapes Go.Shelf

def lays167r : Go.Shelf.Ren := ⟨fun | 167 => 30 | n => Tryd.lays155_ren.f n, Tryd.lays155_ren.t, Tryd.lays155_ren.g⟩
theorem lays167x : Go.Proofs.Lays.n167 Tryd.prog lays167r := { Tryd.lays155 with
  f167 := Tryd.func30.trans (congrArg some (by kernel_rfl))
  f240 := Tryd.func60.trans (congrArg some (by kernel_rfl))
  f276 := Tryd.func90.trans (congrArg some (by kernel_rfl)) }
set_option maxRecDepth 100000 in
theorem lays166x : Go.Proofs.Lays.n166 Tryd.prog Tryd.lays155_ren := { Tryd.lays155 with }
set_option maxRecDepth 100000 in
theorem lays169x : Go.Proofs.Lays.n169 Tryd.prog Tryd.lays155_ren := { Tryd.lays155 with }
set_option maxRecDepth 100000 in
theorem extra167 : Go.Proofs.Builder.Extra Tryd.prog lays167r := { Tryd.Builder_Extra_155 with }

set_option maxRecDepth 100000 in
set_option maxHeartbeats 2000000 in
/-- A text between two marks, each mark in it twice. -/
theorem squote_any (c : UInt8) (s : ByteArray) (m : Int) (w : World) (hs : s.size ≤ 100000) (hm : w.cell? ⟨2, 0, none⟩ = some (.int .i64 m)) :
    Calls Tryd.prog 32 #[.string s, .string ⟨#[c]⟩] w fun e w' => e = .returned (.string ⟨(c :: (doubled c (bytes s) ++ [c])).toArray⟩) ∧ Below w.heap.size w w' := by
  have hR := Tryd.strings_ReplaceAll s ⟨#[c]⟩ ⟨#[c, c]⟩ m w (by omega) hm (by show 1 ≤ 1; omega) (by have := countB_one s c; show s.size + Lib.countB s ⟨#[c]⟩ * 2 ≤ _; omega)
  rw [show Lib.replaceAll s.data.toList (⟨#[c]⟩ : ByteArray).data.toList (⟨#[c, c]⟩ : ByteArray).data.toList = doubled c (bytes s) from replaceAll_doubled c _] at hR
  have hl : (doubled c (bytes s)).length ≤ 200000 := by
    rw [doubled_length, bytes_len]
    have : (bytes s).count c ≤ (bytes s).length := List.count_le_length
    rw [bytes_len] at this; omega
  have HR := Lib.hid hR
  generalize doubled c (bytes s) = D at HR hl ⊢
  clear hR hm
  obtain ⟨X, hX⟩ : ∃ X : ByteArray, X = ⟨D.toArray⟩ := ⟨_, rfl⟩
  have hXs : X.size ≤ 200000 := by rw [hX, str_size]; exact hl
  have HX := Lib.hid (show (⟨#[c]⟩ : ByteArray) ++ X ++ ⟨#[c]⟩ = ⟨(c :: (D ++ [c])).toArray⟩ by rw [hX, show (⟨#[c]⟩ : ByteArray) = ⟨[c].toArray⟩ from rfl, str_cat, str_cat]; rfl)
  rw [← hX] at HR
  clear hX hl
  go_enter Tryd.func32, Tryd.ntmps32
  go_wp2_with fail
  refine HR.out.mono ?_; rintro e w1 ⟨rfl, hb1⟩
  have HB1 := Lib.hid hb1
  clear hb1 HR
  go_wp2_with fail
  go_ret
  exact ⟨by rw [← HX.out]; rfl, HB1.out⟩

/-- A builder that the call itself made. -/
abbrev IsB (B b : Nat) (l : Bs) (w : World) : Prop := Lib.IsBuilderF 73 5 B b (Lib.byteCells l) w

theorem IsB.alloc {B b : Nat} {l : Bs} {w : World} (h : IsB B b l w) (o : Obj) : IsB B b l (w.alloc o) := h.elim (fun x => .inl (x.alloc o)) (fun x => .inr (x.alloc o))
theorem IsB.drewN {B b : Nat} {l : Bs} {w : World} (h : IsB B b l w) (n : Nat) : IsB B b l (w.drewN n) := h
theorem atF_below {T e : TypeId} {B b : Nat} {p : Value} {bs : List Value} {w w' : World} (h : Lib.BuilderAtF T e B b p bs w) (hb : Below w.heap.size w w') : Lib.BuilderAtF T e B b p bs w' := by
  obtain ⟨h0, v, h1, h2, h3⟩ := h
  exact ⟨h0, v, (hb.block b (Array.getElem?_eq_some_iff.1 h1).1).trans h1, h2.kept (grow_below hb none) (by cases v.ownBlock <;> simp), h3⟩
theorem IsB.below {B b : Nat} {l : Bs} {w w' : World} (h : IsB B b l w) (hb : Below w.heap.size w w') : IsB B b l w' := h.elim (fun x => .inl (atF_below x hb)) (fun x => .inr (atF_below x hb))
theorem isB_new (w : World) : IsB w.heap.size w.heap.size [] (w.alloc (.cells #[.pointer none, .slice none 0 0] 73)) :=
  .inl ⟨Nat.le_refl _, _, heap_alloc_new w _, World.ownsRowF_nil _ _ _ _, by simp [Value.ownBlock]⟩

theorem wr_byte (B b : Nat) (l : Bs) (c : UInt8) (w : World) (h : IsB B b l w) (hlen : l.length ≤ 100000000) (hBw : B ≤ w.heap.size) :
    Calls Tryd.prog 30 #[.pointer (some ⟨b, 0, none⟩), .int .u8 (c.toNat : Nat)] w fun e w' => e = .returned .nilIface ∧ IsB B b (l ++ [c]) w' ∧ Below B w w' ∧ Lib.OthersKept 5 (some b) w w' := by
  refine (Any.Builder_WriteByte_k lays167x extra167 B b (Lib.byteCells l) (c.toNat : Nat) w h (by rw [Lib.byteCells_length]; omega) hBw).mono ?_
  rintro e w' ⟨rfl, h1, h2, h3⟩
  exact ⟨rfl, .inr (by rw [Lib.byteCells_append]; exact h1), h2, h3⟩

theorem wr_string (B b : Nat) (l : Bs) (s : ByteArray) (w : World) (h : IsB B b l w) (hlen : l.length + s.size ≤ 100000000) (hBw : B ≤ w.heap.size) :
    Calls Tryd.prog 31 #[.pointer (some ⟨b, 0, none⟩), .string s] w fun e w' => e = .returned (.tuple #[.int .i64 s.size, .nilIface]) ∧ IsB B b (l ++ bytes s) w' ∧ Below B w w' := by
  refine (Any.Builder_WriteString_k lays166x Tryd.Builder_Extra_155 B b (Lib.byteCells l) s w h (by rw [Lib.byteCells_length]; omega) hBw).mono ?_
  rintro e w' ⟨rfl, h1, h2, _⟩
  exact ⟨rfl, .inr (by rw [Lib.byteCells_append]; exact h1), h2⟩

theorem str_of (B b : Nat) (l : Bs) (w : World) (h : IsB B b l w) (hBw : B ≤ w.heap.size) :
    Calls Tryd.prog 33 #[.pointer (some ⟨b, 0, none⟩)] w fun e w' => e = .returned (.string ⟨l.toArray⟩) ∧ Below B w w' := by
  refine (Any.Builder_String_any_k lays169x Tryd.Builder_Extra_155 B b l w h hBw).mono ?_
  rintro e w' ⟨rfl, _, h2, _⟩
  exact ⟨rfl, h2⟩

/-- A token as text. -/
def fieldT (q : Tok) : Bs := if q.kind = 113 then quoted 34 q.text else if q.kind = 115 then quoted 39 q.text else q.text
def fieldsB : List Tok → Bs
  | [] => []
  | t :: r => fieldT t ++ r.flatMap fun q => 32 :: fieldT q
theorem fieldsB_snoc (A : List Tok) (t : Tok) : fieldsB (A ++ [t]) = fieldsB A ++ ((if A = [] then [] else [32]) ++ fieldT t) := by
  cases A with
  | nil => simp [fieldsB]
  | cons x r => simp [fieldsB]
theorem fieldT_length {q : Tok} (h : q.text.length ≤ 2000) : (fieldT q).length ≤ 4002 := by
  have hq : ∀ c, (quoted c q.text).length ≤ 4002 := fun c => by
    unfold quoted
    rw [List.length_cons, List.length_append, doubled_length]
    have := List.count_le_length (a := c) (l := q.text)
    simp; omega
  unfold fieldT
  split
  · exact hq 34
  · split
    · exact hq 39
    · omega
theorem fieldsB_take (T : List Tok) (h : ∀ q ∈ T, q.text.length ≤ 2000) : ∀ k, k ≤ T.length → (fieldsB (T.take k)).length ≤ 4003 * k := by
  intro k
  induction k with
  | zero => intro _; simp [fieldsB]
  | succ k ih =>
    intro hk
    have hk' : k < T.length := hk
    rw [List.take_succ_eq_append_getElem hk', fieldsB_snoc, List.length_append, List.length_append]
    have h1 := fieldT_length (h T[k] (List.getElem_mem hk'))
    have h2 : (if T.take k = [] then ([] : Bs) else [32]).length ≤ 1 := by split <;> simp
    have := ih (by omega)
    omega
end Go.Proofs.YtgopajddloeclaaDoor

namespace Go.Proofs.YtgopajddloeclaaDoor
open Go.RowKit Go.Lib Go.WideShapes

def semi (t : Tok) : Bool := t.kind == 111 && t.text == [59]
def tokV (q : Tok) : Value := .agg #[.int .u8 (q.kind.toNat : Nat), .string ⟨q.text.toArray⟩, .int .i64 q.lo, .int .i64 q.hi]

theorem text_eq (t : Bs) (l : Bs) : (⟨t.toArray⟩ : ByteArray) = ⟨l.toArray⟩ ↔ t = l := by
  constructor
  · intro h; have := congrArg (fun x => x.data.toList) h; simpa using this
  · rintro rfl; rfl

theorem parts_any (q : Tok) (w : World) :
    Calls Tryd.prog 65 #[tokV q] w fun e w' => e = .returned (.bool (semi q)) ∧ Below w.heap.size w w' := by
  obtain ⟨k, tx, lo, hi⟩ := q
  unfold tokV
  by_cases h1 : k = 111
  · subst h1
    have HS := Lib.hid (show semi ⟨111, tx, lo, hi⟩ = (tx == [59]) by unfold semi; simp)
    go_enter Tryd.func65, Tryd.ntmps65
    go_wp2_with fail
    go_ret
    rw [HS.out]
    exact ⟨rfl, (Below.refl _ w).alloc (Nat.le_refl _) _⟩
  · have HS := Lib.hid (show semi ⟨k, tx, lo, hi⟩ = false by unfold semi; simp [h1])
    have h2 : ¬ ((k.toNat : Nat) : Int) = 111 := fun e => h1 (UInt8.toNat_inj.1 (show k.toNat = (111 : UInt8).toNat from (by omega : k.toNat = 111)))
    have h3 : (((k.toNat : Nat) : Int) == 111) = false := by rw [← Bool.not_eq_true]; simpa using h2
    clear h1
    go_enter Tryd.func65, Tryd.ntmps65
    go_wp2_with fail
    go_ret
    rw [HS.out]
    exact ⟨rfl, (Below.refl _ w).alloc (Nat.le_refl _) _⟩
end Go.Proofs.YtgopajddloeclaaDoor

namespace Go.Proofs.YtgopajddloeclaaDoor
open Go.RowKit Go.Lib Go.WideShapes

def begins : List Tok → List Bs → Bool
  | _, [] => true
  | [], _ :: _ => false
  | t :: l, x :: r => (t.kind == 119 && t.text == x) && begins l r

theorem begins_short : ∀ (W : List Bs) (l : List Tok), l.length < W.length → begins l W = false := by
  intro W
  induction W with
  | nil => intro l h; cases h
  | cons x r ih =>
    intro l h
    cases l with
    | nil => rfl
    | cons t l => rw [begins, ih l (by simpa using h), Bool.and_false]

def WordsAt (w : World) (u : Option Addr) (W : List Bs) : Prop := ∀ (i : Nat) (x : Bs), W[i]? = some x → ∃ g, u = some ⟨g, 0, none⟩ ∧ g < w.heap.size ∧ w.cell? ⟨g, i, none⟩ = some (.string ⟨x.toArray⟩)
theorem WordsAt.step {w w' : World} {u : Option Addr} {W : List Bs} (h : WordsAt w u W) (hb : Below w.heap.size w w') : WordsAt w' u W := by
  intro i x hx
  obtain ⟨g, rfl, hg, h0⟩ := h i x hx
  exact ⟨g, rfl, Nat.lt_of_lt_of_le hg hb.size, (hb.cell hg).trans h0⟩

end Go.Proofs.YtgopajddloeclaaDoor

namespace Go.Proofs.YtgopajddloeclaaDoor
open Go.RowKit Go.Lib Go.WideShapes

theorem tokC_cell : ∀ (l : List Tok) (j : Nat) (u : Value), (tokC l)[j]? = some u → ∃ i q, l[i]? = some q ∧ ((j = i * 4 ∧ u = .int .u8 (q.kind.toNat : Nat)) ∨ (j = i * 4 + 1 ∧ u = .string ⟨q.text.toArray⟩) ∨ (j = i * 4 + 2 ∧ u = .int .i64 q.lo) ∨ (j = i * 4 + 3 ∧ u = .int .i64 q.hi)) := by
  intro l
  induction l with
  | nil => intro j u h; cases h
  | cons t l ih =>
    intro j u h
    match j with
    | 0 => cases h; exact ⟨0, t, rfl, .inl ⟨rfl, rfl⟩⟩
    | 1 => cases h; exact ⟨0, t, rfl, .inr (.inl ⟨rfl, rfl⟩)⟩
    | 2 => cases h; exact ⟨0, t, rfl, .inr (.inr (.inl ⟨rfl, rfl⟩))⟩
    | 3 => cases h; exact ⟨0, t, rfl, .inr (.inr (.inr ⟨rfl, rfl⟩))⟩
    | j + 4 =>
      obtain ⟨i, q, hq, hh⟩ := ih j u h
      refine ⟨i + 1, q, hq, ?_⟩
      rcases hh with ⟨h1, h2⟩ | ⟨h1, h2⟩ | ⟨h1, h2⟩ | ⟨h1, h2⟩
      · exact .inl ⟨by omega, h2⟩
      · exact .inr (.inl ⟨by omega, h2⟩)
      · exact .inr (.inr (.inl ⟨by omega, h2⟩))
      · exact .inr (.inr (.inr ⟨by omega, h2⟩))

theorem TokOff.cells {w : World} {p : Addr} {l : List Tok} (h : TokOff w (some p) l) (j : Nat) (u : Value) (hu : (tokC l)[j]? = some u) : w.cell? (p.add j) = some u := by
  rcases h with rfl | ⟨g, off, hp, _, hc⟩
  · cases hu
  · cases hp
    obtain ⟨i, q, hq, hh⟩ := tokC_cell l j u hu
    obtain ⟨h0, h1, h2, h3⟩ := hc i q hq
    rw [Go.WideShapes.add_plain]
    rcases hh with ⟨rfl, rfl⟩ | ⟨rfl, rfl⟩ | ⟨rfl, rfl⟩ | ⟨rfl, rfl⟩
    · exact h0
    · exact h1
    · exact h2
    · exact h3

theorem tokC_one (l : List Tok) : ∀ u ∈ tokC l, u.oneCell' = true := by
  intro u hu
  simp only [tokC, List.mem_flatMap, List.mem_cons, List.not_mem_nil, or_false] at hu
  obtain ⟨q, _, rfl | rfl | rfl | rfl⟩ := hu <;> rfl

/-- Block g is a row of tokens. -/
def RowOf (w : World) (g : Nat) : Prop := ∃ row k, w.heap[g]? = some (Obj.cells row 25 k)

theorem rowAt {w : World} {B : Nat} {v : Value} {l : List Tok} (h : w.ownsRow B 25 4 v l.length (tokC l)) (h0 : 0 < l.length) : ∃ g d, (B ≤ g ∧ l.length ≤ d ∧ d ≤ 9223372036854775807) ∧ v = .slice (some ⟨g, 0, none⟩) l.length d ∧ RowOf w g ∧ TokAt w (some ⟨g, 0, none⟩) l := by
  have hrow : ∀ g c, v = .slice (some ⟨g, 0, none⟩) l.length c → RowOf w g := by
    intro g c e
    rcases h.2 with ⟨rfl, _⟩ | ⟨g', cap, cur, rfl, _, hg, _⟩
    · cases e
    · cases e; exact ⟨_, _, hg⟩
  obtain ⟨g, cap, rfl, hk1, hk2, hB, hg, hc⟩ := tok_cells h h0
  refine ⟨_, _, ⟨hB, hk1, hk2⟩, rfl, hrow _ _ rfl, fun i q hq => ?_⟩
  obtain ⟨h0, h1, h2, h3⟩ := tokC_at l i q hq
  exact ⟨g, rfl, hg, hc _ _ h0, hc _ _ h1, hc _ _ h2, hc _ _ h3⟩

set_option maxRecDepth 100000 in
set_option maxHeartbeats 2000000 in
theorem clone_toks (ad : Addr) (l : List Tok) (n c : Nat) (w : World) (hl : l.length = n) (h : TokOff w (some ad) l) (h0 : 0 < n) (hsz : n ≤ 2000) :
    Calls Tryd.prog 93 #[.slice (some ad) n c] w fun e w' => ∃ g d, (w.heap.size ≤ g ∧ n ≤ d ∧ d ≤ 9223372036854775807) ∧ e = .returned (.slice (some ⟨g, 0, none⟩) n d) ∧ RowOf w' g ∧ TokAt w' (some ⟨g, 0, none⟩) l ∧ Below w.heap.size w w' := by
  obtain ⟨i0, hi, y0, y1, y2⟩ := info_parts Tryd.info25
  have q22 : ∀ (w : World) (a : Option Addr) (n c n' c' : Nat), (binOp .eql 22 (.slice a n c) (.slice none n' c')).run Tryd.prog w = .ok (.bool a.isNone) w := fun w a n c n' c' => Lib.run_eql_slice_nil w _ _ a n c n' c' Tryd.underlying22
  have H := Lib.hid h
  clear h
  subst hl
  go_enter Tryd.func93, Tryd.ntmps93
  go_wp2_with (at_builtin; refine wpList_append_own_wide _ rfl _ _ 22 rfl w.heap.size 25 i0 (.agg #[.int .u8 0, .string { data := #[] }, .int .i64 0, .int .i64 0]) 4 40 Tryd.underlying22 hi y0 y1 y2 rfl (by decide) _ _ _ rfl (World.ownsRow_made w #[] 0 (Nat.le_refl _) (Nat.zero_le _) (by simp)) ad l.length c (tokC l) rfl ?c1 ?c2 ?c3 ?c4 ?c5 ?c6 ?_)
  case c1 => exact tokC_len l
  case c2 => intro j u hj; exact Lib.cell?_alloc_some _ (H.out.cells j u hj)
  case c3 => exact tokC_one l
  case c4 => unfold maxLen; omega
  case c5 => omega
  case c6 => simp
  intro v' w1 hown hgrow _
  have hB : Below w.heap.size w w1 := below_grown ((Below.refl _ w).alloc (Nat.le_refl _) _) (by simp) hgrow (by intro k hk; simp [Value.ownBlock] at hk; omega)
  obtain ⟨u, d, hu, rfl, hr, hA⟩ := rowAt (by simpa using hown) h0
  have HA := Lib.hid hA; have HB := Lib.hid hB; have HG := Lib.hid hu; have HR := Lib.hid hr
  clear hA hB hown hgrow hu hr
  go_wp2
  go_ret
  exact ⟨u, d, HG.out, rfl, HR.out, HA.out, HB.out⟩
end Go.Proofs.YtgopajddloeclaaDoor

namespace Go.Proofs.YtgopajddloeclaaDoor
open Go.RowKit Go.Lib Go.WideShapes

def semiAt (l : List Tok) : Nat := (l.takeWhile (fun t => !semi t)).length
theorem semiAt_le (l : List Tok) : semiAt l ≤ l.length := (List.takeWhile_prefix (l := l) (fun t => !semi t)).length_le
theorem semiAt_cons (t : Tok) (l : List Tok) : semiAt (t :: l) = if semi t = true then 0 else 1 + semiAt l := by
  unfold semiAt
  rw [List.takeWhile_cons]
  cases semi t <;> simp <;> omega

set_option maxRecDepth 100000 in
set_option maxHeartbeats 2000000 in
theorem index_any (p : Option Addr) (l : List Tok) (n c : Nat) (w : World) (hl : l.length = n) (h : TokOff w p l) (hn : n ≤ 2000) :
    Calls Tryd.prog 64 #[.slice p n c, .func (.func 65) #[] #[]] w fun e w' => e = .returned (.int .i64 (if semiAt l < n then (semiAt l : Int) else -1)) ∧ Below w.heap.size w w' := by
  have HL := Lib.hid hl; have H := Lib.hid h
  have HP := Lib.hid (fun q W => parts_any q W)
  obtain ⟨R, hR⟩ : ∃ R : Int, R = if semiAt l < n then (semiAt l : Int) else -1 := ⟨_, rfl⟩
  rw [← hR]
  have HR := Lib.hid hR
  clear hl h hR
  go_enter Tryd.func64, Tryd.ntmps64
  go_wp2_with fail
  go_loopg [8] n (fun g v wr => ∃ i : Nat, v = .int .i64 i ∧ i ≤ n ∧ g = n - i ∧ Below w.heap.size w wr ∧ semiAt l = i + semiAt (l.drop i))
  case atStart => exact ⟨0, rfl, Nat.zero_le _, rfl, Below.refl _ _, by simp⟩
  case round =>
    obtain ⟨i, rfl, hi, hg, hB, hr⟩ := hrel
    have HB := Lib.hid hB; have HG := Lib.hid hg; have HRR := Lib.hid hr
    clear hB hg hr
    by_cases hlt : i < n
    · have hlt' : (i : Int) < n := by omega
      obtain ⟨q, hq⟩ : ∃ q, l[i]? = some q := ⟨_, List.getElem?_eq_getElem (by rw [HL.out]; omega)⟩
      have HS := Lib.hid (show semiAt (l.drop i) = if semi q = true then 0 else 1 + semiAt (l.drop (i + 1)) by
        rw [List.drop_eq_getElem_cons (by rw [HL.out]; omega), semiAt_cons]
        rw [List.getElem?_eq_getElem (by rw [HL.out]; omega)] at hq
        cases hq; rfl)
      rcases H.out.step HB.out with rfl | ⟨g1, off, rfl, hg1, hc⟩
      · cases hq
      obtain ⟨x0, x1, x2, x3⟩ := hc i q hq
      clear hc hq
      go_wp2_with fail
      refine (HP.out q wr).mono ?_; rintro e w1 ⟨rfl, hb1⟩
      have HB1 := Lib.hid (HB.out.step hb1 HB.out.size)
      clear hb1
      by_cases hs : semi q = true
      · have HRI := Lib.hid (show R = i by rw [HR.out, HRR.out, HS.out, if_pos hs, if_pos (by omega)]; simp)
        rw [hs]
        go_wp2_with fail
        go_ret
        rw [HRI.out]
        exact ⟨rfl, HB1.out⟩
      · have HS2 := Lib.hid (show semiAt l = i + 1 + semiAt (l.drop (i + 1)) by rw [HRR.out, HS.out, if_neg hs]; omega)
        rw [show semi q = false by simpa using hs]
        go_wp2_with fail
        go_roundg (n - (i + 1))
        case measure => have := HG.out; omega
        case rel => exact ⟨i + 1, by go_num, by omega, rfl, HB1.out, HS2.out⟩
    · have hlt' : (n : Int) ≤ i := by omega
      have HRI := Lib.hid (show R = -1 by
        rw [HR.out, if_neg]
        rw [HRR.out]; omega)
      go_wp2_with fail
      go_ret
      rw [HRI.out]
      exact ⟨rfl, HB.out⟩
end Go.Proofs.YtgopajddloeclaaDoor
