/- The order of texts; rows of names and values whose names rise: what is got of them. No program is named here. -/
import Derived.Test.YtjckfdpkcaloiaaRows
import Derived.Lib.Strings
namespace Go.Proofs.Ytjckfdpkcaloiaa

theorem less_irrefl : ∀ x : List UInt8, Op.bytesLess x x = false
  | [] => rfl
  | a :: x => by simp [Op.bytesLess, less_irrefl x]

theorem less_trans : ∀ x y z : List UInt8, Op.bytesLess x y = true → Op.bytesLess y z = true → Op.bytesLess x z = true
  | _, _, [], _, h2 => by simp [Op.bytesLess] at h2
  | _, [], _ :: _, h1, _ => by simp [Op.bytesLess] at h1
  | [], _ :: _, _ :: _, _, _ => rfl
  | a :: x, b :: y, c :: z, h1, h2 => by
    simp only [Op.bytesLess, Bool.or_eq_true, decide_eq_true_eq, Bool.and_eq_true, beq_iff_eq, UInt8.lt_iff_toNat_lt] at h1 h2 ⊢
    rcases h1 with h1 | ⟨rfl, h1⟩
    · rcases h2 with h2 | ⟨rfl, h2⟩
      · left; omega
      · left; exact h1
    · rcases h2 with h2 | ⟨rfl, h2⟩
      · left; exact h2
      · right; exact ⟨rfl, less_trans x y z h1 h2⟩

theorem less_total : ∀ x y : List UInt8, Op.bytesLess x y = false → Op.bytesLess y x = false → x = y
  | [], [], _, _ => rfl
  | [], _ :: _, h, _ => by simp [Op.bytesLess] at h
  | _ :: _, [], _, h => by simp [Op.bytesLess] at h
  | a :: x, b :: y, h1, h2 => by
    simp only [Op.bytesLess, Bool.or_eq_false_iff, decide_eq_false_iff_not, Bool.and_eq_false_iff, UInt8.lt_iff_toNat_lt, beq_eq_false_iff_ne, ne_eq] at h1 h2
    have hab : a = b := by apply UInt8.toNat_inj.1; omega
    subst hab
    rw [less_total x y (by simpa using h1.2) (by simpa using h2.2)]

/-- One text stands ahead of another. -/
def lt (a b : ByteArray) : Bool := Op.bytesLess a.toList b.toList

theorem text_ext {a b : ByteArray} (h : a.toList = b.toList) : a = b := by
  rw [Lib.toList_data, Lib.toList_data] at h
  cases a; cases b
  simp only [ByteArray.mk.injEq] at h ⊢
  exact Array.ext' h

theorem lt_irrefl (a : ByteArray) : lt a a = false := less_irrefl _
theorem lt_trans {a b c : ByteArray} (h : lt a b = true) (h2 : lt b c = true) : lt a c = true := less_trans _ _ _ h h2
theorem lt_total {a b : ByteArray} (h : lt a b = false) (h2 : lt b a = false) : a = b := text_ext (less_total _ _ h h2)
theorem lt_asymm {a b : ByteArray} (h : lt a b = true) : lt b a = false := by
  cases h2 : lt b a with
  | false => rfl
  | true => have := lt_trans h h2; rw [lt_irrefl] at this; cases this
theorem lt_ne {a b : ByteArray} (h : lt a b = true) : a ≠ b := fun e => by rw [e, lt_irrefl] at h; cases h

abbrev Pairs := List (ByteArray × ByteArray)

def get (g : Pairs) (n : ByteArray) : Option ByteArray := (g.find? fun p => p.1.toList == n.toList).map (·.2)

theorem eq_lists {a b : ByteArray} : (a.toList == b.toList) = decide (a = b) := by
  rw [Bool.eq_iff_iff]; simp only [beq_iff_eq, decide_eq_true_eq]; exact ⟨text_ext, fun h => by rw [h]⟩

theorem get_nil (n : ByteArray) : get [] n = none := rfl
theorem get_cons (p : ByteArray × ByteArray) (g : Pairs) (n : ByteArray) : get (p :: g) n = if p.1 = n then some p.2 else get g n := by
  unfold get
  rw [List.find?_cons, eq_lists]
  by_cases h : p.1 = n <;> simp [h]

/-- The names rise. -/
def Rise (g : Pairs) : Prop := g.Pairwise fun p q => lt p.1 q.1 = true

theorem Rise.head {p : ByteArray × ByteArray} {g : Pairs} (h : Rise (p :: g)) : ∀ q ∈ g, lt p.1 q.1 = true := (List.pairwise_cons.1 h).1
theorem Rise.tail {p : ByteArray × ByteArray} {g : Pairs} (h : Rise (p :: g)) : Rise g := (List.pairwise_cons.1 h).2
theorem Rise.cons {p : ByteArray × ByteArray} {g : Pairs} (h : ∀ q ∈ g, lt p.1 q.1 = true) (h2 : Rise g) : Rise (p :: g) := List.pairwise_cons.2 ⟨h, h2⟩

theorem get_none {g : Pairs} {n : ByteArray} (h : ∀ q ∈ g, q.1 ≠ n) : get g n = none := by
  induction g with
  | nil => rfl
  | cons p g ih => rw [get_cons, if_neg (h p (by simp)), ih (fun q hq => h q (by simp [hq]))]

theorem get_behind {p : ByteArray × ByteArray} {g : Pairs} (h : Rise (p :: g)) {n : ByteArray} (hn : lt p.1 n = false) : get g n = none :=
  get_none fun q hq e => by
    have := h.head q hq
    rw [e, hn] at this; cases this

/-- Rows whose names rise, and of which the same is got, are the same. -/
theorem rise_ext {g h : Pairs} (hg : Rise g) (hh : Rise h) (e : ∀ n, get g n = get h n) : g = h := by
  induction g generalizing h with
  | nil =>
    cases h with
    | nil => rfl
    | cons q h => have := e q.1; rw [get_cons, if_pos rfl] at this; cases this
  | cons p g ih =>
    cases h with
    | nil => have := e p.1; rw [get_cons, if_pos rfl] at this; cases this
    | cons q h =>
      have hpq : p.1 = q.1 := by
        cases h1 : lt p.1 q.1 with
        | true =>
          have := e p.1
          rw [get_cons, if_pos rfl, get_cons, if_neg (lt_ne h1).symm, get_behind hh (lt_asymm h1)] at this
          cases this
        | false =>
          cases h2 : lt q.1 p.1 with
          | true =>
            have := e q.1
            rw [get_cons, if_neg (lt_ne h2).symm, get_cons, if_pos rfl, get_behind hg (lt_asymm h2)] at this
            cases this
          | false => exact lt_total h1 h2
      have hv : p = q := by
        have := e p.1
        rw [get_cons, if_pos rfl, get_cons, if_pos hpq.symm] at this
        exact Prod.ext hpq (by simpa using this)
      subst hv
      rw [ih hg.tail hh.tail fun n => ?_]
      have := e n
      rw [get_cons, get_cons] at this
      by_cases hn : p.1 = n
      · subst hn
        rw [get_behind hg (lt_irrefl _), get_behind hh (lt_irrefl _)]
      · rwa [if_neg hn, if_neg hn] at this

def put : Pairs → ByteArray → ByteArray → Pairs
  | [], n, v => [(n, v)]
  | p :: g, n, v => if lt p.1 n then p :: put g n v else if p.1 = n then (n, v) :: g else (n, v) :: p :: g

theorem put_mem {g : Pairs} {n v : ByteArray} : ∀ q ∈ put g n v, q.1 = n ∨ q ∈ g := by
  induction g with
  | nil => simp [put]
  | cons p g ih =>
    intro q hq
    unfold put at hq
    split at hq
    · rcases List.mem_cons.1 hq with rfl | hq
      · exact .inr (by simp)
      · exact (ih q hq).imp id fun h => by simp [h]
    · split at hq
      · rcases List.mem_cons.1 hq with rfl | hq
        · exact .inl rfl
        · exact .inr (by simp [hq])
      · rcases List.mem_cons.1 hq with rfl | hq
        · exact .inl rfl
        · exact .inr hq

theorem put_rise {g : Pairs} (h : Rise g) (n v : ByteArray) : Rise (put g n v) := by
  induction g with
  | nil => exact .cons (by simp) .nil
  | cons p g ih =>
    unfold put
    split
    · rename_i hlt
      refine .cons (fun q hq => ?_) (ih h.tail)
      rcases put_mem q hq with e | hq
      · rw [e]; exact hlt
      · exact h.head q hq
    · rename_i hlt
      split
      · rename_i e
        subst e
        exact .cons h.head h.tail
      · rename_i e
        have hnp : lt n p.1 = true := by
          cases h2 : lt n p.1 with
          | true => rfl
          | false => exact absurd (lt_total (by simpa using hlt) h2) e
        refine .cons (fun q hq => ?_) h
        rcases List.mem_cons.1 hq with rfl | hq
        · exact hnp
        · exact lt_trans hnp (h.head q hq)

theorem get_put {g : Pairs} (h : Rise g) (n v m : ByteArray) : get (put g n v) m = if n = m then some v else get g m := by
  induction g with
  | nil => rw [put, get_cons]
  | cons p g ih =>
    unfold put
    split
    · rename_i hlt
      rw [get_cons, get_cons, ih h.tail]
      by_cases hp : p.1 = m
      · subst hp
        rw [if_pos rfl, if_neg (lt_ne hlt).symm, if_pos rfl]
      · rw [if_neg hp, if_neg hp]
    · split
      · rename_i e
        subst e
        rw [get_cons, get_cons]
        by_cases hp : p.1 = m
        · rw [if_pos hp, if_pos hp]
        · rw [if_neg hp, if_neg hp, if_neg hp]
      · rw [get_cons]

def drop (g : Pairs) (n : ByteArray) : Pairs := g.filter fun p => !decide (p.1 = n)

theorem drop_rise {g : Pairs} (h : Rise g) (n : ByteArray) : Rise (drop g n) := List.Pairwise.filter _ h

theorem get_drop (g : Pairs) (n m : ByteArray) : get (drop g n) m = if n = m then none else get g m := by
  induction g with
  | nil => simp [drop, get]
  | cons p g ih =>
    unfold drop at ih ⊢
    rw [List.filter_cons]
    by_cases hp : p.1 = n
    · rw [if_neg (by simp [hp]), ih, get_cons]
      subst hp
      by_cases hm : p.1 = m <;> simp [hm]
    · rw [if_pos (by simp [hp]), get_cons, get_cons, ih]
      by_cases hm : p.1 = m
      · subst hm
        rw [if_pos rfl, if_pos rfl, if_neg (fun e => hp e.symm)]
      · rw [if_neg hm, if_neg hm]

/-- One row over another, as the document says it: each put, one behind the other. -/
def over (a b : Pairs) : Pairs := b.foldl (fun a p => put a p.1 p.2) a

theorem over_rise {a : Pairs} (h : Rise a) (b : Pairs) : Rise (over a b) := by
  induction b generalizing a with
  | nil => exact h
  | cons p b ih => exact ih (put_rise h _ _)

theorem get_over {a b : Pairs} (ha : Rise a) (hb : Rise b) (m : ByteArray) : get (over a b) m = (get b m).or (get a m) := by
  induction b generalizing a with
  | nil => rfl
  | cons p b ih =>
    show get (over (put a p.1 p.2) b) m = _
    rw [ih (put_rise ha _ _) hb.tail, get_put ha, get_cons]
    by_cases hp : p.1 = m
    · subst hp
      rw [get_behind hb (lt_irrefl _), if_pos rfl, if_pos rfl]; rfl
    · rw [if_neg hp, if_neg hp]

/-- One row over another, as two rows are merged. -/
def merge : Pairs → Pairs → Pairs
  | [], b => b
  | p :: a, [] => p :: a
  | p :: a, q :: b => if lt p.1 q.1 then p :: merge a (q :: b) else if lt q.1 p.1 then q :: merge (p :: a) b else merge a (q :: b)
termination_by a b => a.length + b.length

theorem merge_nil (a : Pairs) : merge a [] = a := by cases a <;> simp [merge]

theorem merge_mem (a b : Pairs) : ∀ q ∈ merge a b, q ∈ a ∨ q ∈ b := by
  induction a, b using merge.induct with
  | case1 b => intro q hq; rw [merge] at hq; exact .inr hq
  | case2 p a => intro q hq; rw [merge] at hq; exact .inl hq
  | case3 p a r b h ih =>
    intro q hq
    rw [merge, if_pos h] at hq
    rcases List.mem_cons.1 hq with rfl | hq
    · exact .inl (by simp)
    · exact (ih q hq).imp (fun h => by simp [h]) id
  | case4 p a r b h1 h2 ih =>
    intro q hq
    rw [merge, if_neg h1, if_pos h2] at hq
    rcases List.mem_cons.1 hq with rfl | hq
    · exact .inr (by simp)
    · exact (ih q hq).imp id (fun h => by simp [h])
  | case5 p a r b h1 h2 ih =>
    intro q hq
    rw [merge, if_neg h1, if_neg h2] at hq
    exact (ih q hq).imp (fun h => by simp [h]) id

theorem merge_rise {a b : Pairs} (ha : Rise a) (hb : Rise b) : Rise (merge a b) := by
  induction a, b using merge.induct with
  | case1 b => rw [merge]; exact hb
  | case2 p a => rw [merge]; exact ha
  | case3 p a r b h ih =>
    rw [merge, if_pos h]
    refine .cons (fun q hq => ?_) (ih ha.tail hb)
    rcases merge_mem _ _ q hq with hq | hq
    · exact ha.head q hq
    · rcases List.mem_cons.1 hq with rfl | hq
      · exact h
      · exact lt_trans h (hb.head q hq)
  | case4 p a r b h1 h2 ih =>
    rw [merge, if_neg h1, if_pos h2]
    refine .cons (fun q hq => ?_) (ih ha hb.tail)
    rcases merge_mem _ _ q hq with hq | hq
    · rcases List.mem_cons.1 hq with rfl | hq
      · exact h2
      · exact lt_trans h2 (ha.head q hq)
    · exact hb.head q hq
  | case5 p a r b h1 h2 ih =>
    rw [merge, if_neg h1, if_neg h2]
    exact ih ha.tail hb

theorem get_merge {a b : Pairs} (ha : Rise a) (hb : Rise b) (m : ByteArray) : get (merge a b) m = (get b m).or (get a m) := by
  induction a, b using merge.induct with
  | case1 b => rw [merge, get_nil]; simp
  | case2 p a => rw [merge, get_nil]; rfl
  | case3 p a r b h ih =>
    rw [merge, if_pos h, get_cons, ih ha.tail hb]
    by_cases hp : p.1 = m
    · subst hp
      rw [if_pos rfl, get_cons, if_neg (lt_ne h).symm, get_behind hb (lt_asymm h), get_cons, if_pos rfl]; rfl
    · rw [if_neg hp, get_cons p, if_neg hp]
  | case4 p a r b h1 h2 ih =>
    rw [merge, if_neg h1, if_pos h2, get_cons, ih ha hb.tail, get_cons r]
    by_cases hr : r.1 = m
    · rw [if_pos hr, if_pos hr]; rfl
    · rw [if_neg hr, if_neg hr]
  | case5 p a r b h1 h2 ih =>
    have e : p.1 = r.1 := lt_total (by simpa using h1) (by simpa using h2)
    rw [merge, if_neg h1, if_neg h2, ih ha.tail hb]
    by_cases hp : r.1 = m
    · rw [get_cons, if_pos hp]; rfl
    · rw [get_cons p, if_neg (by rw [e]; exact hp)]

theorem merge_over {a b : Pairs} (ha : Rise a) (hb : Rise b) : merge a b = over a b :=
  rise_ext (merge_rise ha hb) (over_rise ha b) fun n => by rw [get_merge ha hb, get_over ha hb]

/-- How many names stand ahead of n. -/
def place (g : Pairs) (n : ByteArray) : Nat := (g.takeWhile fun p => lt p.1 n).length

theorem place_cons (p : ByteArray × ByteArray) (g : Pairs) (n : ByteArray) : place (p :: g) n = if lt p.1 n then place g n + 1 else 0 := by
  unfold place
  rw [List.takeWhile_cons]
  split <;> simp

theorem place_le (g : Pairs) (n : ByteArray) : place g n ≤ g.length := by
  induction g with
  | nil => simp [place]
  | cons p g ih => rw [place_cons]; split <;> simp <;> omega

theorem place_iff {g : Pairs} (h : Rise g) (n : ByteArray) (i : Nat) (hi : i < g.length) : lt g[i].1 n = decide (i < place g n) := by
  induction g generalizing i with
  | nil => simp at hi
  | cons p g ih =>
    rw [place_cons]
    cases i with
    | zero => cases hp : lt p.1 n <;> simp [hp]
    | succ i =>
      have hi' : i < g.length := by simpa using hi
      have := ih h.tail i hi'
      cases hp : lt p.1 n with
      | true => simp [this]
      | false =>
        have hpi := h.head g[i] (List.getElem_mem hi')
        have : lt g[i].1 n = false := by
          cases hq : lt g[i].1 n with
          | false => rfl
          | true => rw [lt_trans hpi hq] at hp; cases hp
        simp [this]

/-- Is n there? -/
def there (g : Pairs) (n : ByteArray) : Bool := match g[place g n]? with
  | some p => p.1.toList == n.toList
  | none => false

theorem there_cons (p : ByteArray × ByteArray) (g : Pairs) (n : ByteArray) : there (p :: g) n = if lt p.1 n then there g n else decide (p.1 = n) := by
  unfold there
  rw [place_cons]
  cases hp : lt p.1 n <;> simp [eq_lists]

theorem put_place (g : Pairs) (n v : ByteArray) : put g n v = if there g n then g.set (place g n) (n, v) else g.take (place g n) ++ (n, v) :: g.drop (place g n) := by
  induction g with
  | nil => rfl
  | cons p g ih =>
    rw [put, there_cons, place_cons]
    cases hp : lt p.1 n with
    | true => simp [ih]; split <;> rfl
    | false =>
      by_cases e : p.1 = n
      · simp [e]
      · simp [e]

theorem drop_place {g : Pairs} (h : Rise g) (n : ByteArray) : drop g n = if there g n then g.take (place g n) ++ g.drop (place g n + 1) else g := by
  induction g with
  | nil => rfl
  | cons p g ih =>
    have keep : ∀ {g : Pairs}, (∀ q ∈ g, q.1 ≠ n) → drop g n = g := fun hq => List.filter_eq_self.2 fun q hm => by simp [hq q hm]
    rw [there_cons, place_cons]
    cases hp : lt p.1 n with
    | true =>
      have ih' := ih h.tail
      unfold drop at ih' ⊢
      rw [List.filter_cons, if_pos (by simp [lt_ne hp]), ih']
      simp only [if_true]
      split <;> simp
    | false =>
      have hb : ∀ q ∈ g, q.1 ≠ n := fun q hq e => by
        have := h.head q hq
        rw [e, hp] at this; cases this
      by_cases e : p.1 = n
      · have : drop (p :: g) n = drop g n := by unfold drop; rw [List.filter_cons, if_neg (by simp [e])]
        rw [this, keep hb]
        simp [e]
      · have : drop (p :: g) n = p :: drop g n := by unfold drop; rw [List.filter_cons, if_pos (by simp [e])]
        rw [this, keep hb]
        simp [e]

theorem there_iff {g : Pairs} (h : Rise g) (n : ByteArray) : there g n = (get g n).isSome := by
  induction g with
  | nil => rfl
  | cons p g ih =>
    rw [there_cons, get_cons]
    cases hp : lt p.1 n with
    | true => simp [lt_ne hp, ih h.tail]
    | false =>
      by_cases e : p.1 = n
      · simp [e]
      · simp [e, get_behind h hp]

/-- The document's Put, from a place on. -/
def rput : Pairs → ByteArray → ByteArray → Bool → Pairs
  | [], n, v, done => if done then [] else [(n, v)]
  | p :: g, n, v, done => (if !done && !lt p.1 n then [(n, v)] else []) ++ ((if p.1 = n then [] else [p]) ++ rput g n v (done || !lt p.1 n))

theorem rput_done (g : Pairs) (n v : ByteArray) : rput g n v true = drop g n := by
  induction g with
  | nil => rfl
  | cons p g ih =>
    rw [rput, Bool.true_or, ih]
    unfold drop
    rw [List.filter_cons]
    by_cases e : p.1 = n <;> simp [e]

theorem rput_put {g : Pairs} (h : Rise g) (n v : ByteArray) : rput g n v false = put g n v := by
  induction g with
  | nil => rfl
  | cons p g ih =>
    rw [rput, put]
    cases hp : lt p.1 n with
    | true => simp [lt_ne hp, ih h.tail]
    | false =>
      have hb : drop g n = g := List.filter_eq_self.2 fun q hq => by
        have := h.head q hq
        have : q.1 ≠ n := fun e => by rw [e, hp] at this; cases this
        simp [this]
      by_cases e : p.1 = n
      · simp [e, rput_done, hb]
      · simp [e, rput_done, hb]

/-- Do the names rise, from one to the next? -/
def right : Pairs → Bool
  | [] => true
  | [_] => true
  | p :: q :: g => lt p.1 q.1 && right (q :: g)

theorem right_iff (g : Pairs) : right g = true ↔ Rise g := by
  induction g with
  | nil => exact ⟨fun _ => .nil, fun _ => rfl⟩
  | cons p g ih =>
    cases g with
    | nil => exact ⟨fun _ => .cons (by simp) .nil, fun _ => rfl⟩
    | cons q g =>
      rw [right, Bool.and_eq_true, ih]
      constructor
      · rintro ⟨h1, h2⟩
        refine .cons (fun r hr => ?_) h2
        rcases List.mem_cons.1 hr with rfl | hr
        · exact h1
        · exact lt_trans h1 (h2.head r hr)
      · intro h
        exact ⟨h.head q (by simp), h.tail⟩

theorem right_at {g : Pairs} (h : ∀ i (hi : i + 1 < g.length), lt g[i].1 g[i + 1].1 = true) : right g = true := by
  induction g with
  | nil => rfl
  | cons p g ih =>
    cases g with
    | nil => rfl
    | cons q g =>
      rw [right, Bool.and_eq_true]
      exact ⟨h 0 (by simp), ih fun i hi => h (i + 1) (by simpa using hi)⟩

theorem right_not {g : Pairs} {i : Nat} (hi : i + 1 < g.length) (h : lt g[i].1 g[i + 1].1 = false) : right g = false := by
  cases hr : right g with
  | false => rfl
  | true =>
    have := List.pairwise_iff_getElem.1 ((right_iff g).1 hr) i (i + 1) (by omega) hi (by omega)
    rw [h] at this; cases this

def weight (g : Pairs) : Nat := (g.map fun p => 1 + p.1.size + p.2.size).sum

end Go.Proofs.Ytjckfdpkcaloiaa
