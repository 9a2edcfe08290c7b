/- The document's frame of a message agrees with the program's: mathematics. -/
import Derived.Test.YtfdffiphlpeegaaELay
import Derived.Test.YtfdffiphlpeegaaMRQ
namespace Go.Proofs.Ytfdffiphlpeegaa
open Go.RowKit Go.Lib Go.WideShapes

theorem ag_all : ∀ (l : Bs), (∀ c ∈ l, letter c = true) → ∀ s : XS, s.bad = false → s.T.length ≤ 10000 → Agree (xAll l s) (wAll l s.ws)
  | [], _, s, hb, _ => .inr ⟨hb, rfl⟩
  | c :: l, hl, s, hb, hT => by
    rw [xAll, if_neg (by rw [hb]; decide), wAll]
    rcases ag_field (hl c (List.mem_cons_self ..)) hb hT with ⟨e1, e2⟩ | ⟨e1, e2⟩
    · rw [e2]
      left
      refine ⟨?_, rfl⟩
      cases l with
      | nil => exact e1
      | cons d l => rw [xAll, if_pos e1]; exact e1
    · rw [e2]
      obtain ⟨t, n, b, h1, _⟩ := fwd_field c _ _ e2
      have h1' : s.T = t ++ (xField c s).T := h1
      have hT' : (xField c s).T.length ≤ 10000 := by
        have := congrArg List.length h1'
        rw [List.length_append] at this
        omega
      exact ag_all l (fun d hd => hl d (List.mem_cons_of_mem _ hd)) _ e1 hT'
theorem look_mem : ∀ {K : Bs} {R : List Bs} {c : UInt8} {r : Bs}, look K R c = some r → r ∈ R
  | k :: ks, r' :: rs, c, r, h => by
    rw [look] at h
    split at h
    · obtain rfl := Option.some.inj h
      exact List.mem_cons_self ..
    · exact List.mem_cons_of_mem _ (look_mem h)
  | [], _, _, _, h => by unfold look at h; cases h
  | _ :: _, [], _, _, h => by unfold look at h; cases h
theorem letters_of : (∀ r ∈ RC, ∀ c ∈ r, letter c = true) ∧ (∀ r ∈ RS', ∀ c ∈ r, letter c = true) := by decide
theorem lens_of : (∀ r ∈ RC, r.length ≤ 5) ∧ (∀ r ∈ RS', r.length ≤ 5) := by decide
theorem lay_letters {back : Bool} {c : UInt8} {l : Bs} (h : lay back c = some l) : (∀ d ∈ l, letter d = true) ∧ l.length ≤ 5 := by
  cases back with
  | true => have h' : look KS RS' c = some l := h; exact ⟨letters_of.2 l (look_mem h'), lens_of.2 l (look_mem h')⟩
  | false => have h' : look KC RC c = some l := h; exact ⟨letters_of.1 l (look_mem h'), lens_of.1 l (look_mem h')⟩

/-- What the way through ends with, and what is written. -/
def Ends (x : XS) (r : Option Bs) : Prop := (x.bad = true ∧ r = none) ∨ (x.bad = false ∧ r = if x.T = [] ∧ x.N = [] then some x.B else none)
theorem ends_all {l : Bs} (hl : ∀ c ∈ l, letter c = true) {T : List Bs} {N : List Int} (hT : T.length ≤ 10000) : Ends (xAll l ⟨T, N, [], false⟩) ((wAll l ⟨T, N, []⟩).bind wDone) := by
  rcases ag_all l hl ⟨T, N, [], false⟩ rfl hT with ⟨e1, e2⟩ | ⟨e1, e2⟩
  · exact .inl ⟨e1, by rw [show wAll l ⟨T, N, []⟩ = none from e2]; rfl⟩
  · exact .inr ⟨e1, by rw [show wAll l ⟨T, N, []⟩ = some _ from e2]; rfl⟩
theorem all_next {l : Bs} {s x : XS} {j : Nat} {c : UInt8} (h : xAll l s = xAll (l.drop j) x) (hc : l[j]? = some c) (hb : x.bad = false) : xAll l s = xAll (l.drop (j + 1)) (xField c x) := by
  obtain ⟨h1, e1⟩ := List.getElem?_eq_some_iff.1 hc
  rw [h, List.drop_eq_getElem_cons h1, e1, xAll, if_neg (by rw [hb]; decide)]
theorem all_bad {l : Bs} {s x : XS} {j : Nat} (h : xAll l s = xAll (l.drop j) x) (hb : x.bad = true) : xAll l s = x := by
  rw [h]
  cases l.drop j with
  | nil => rfl
  | cons c l => rw [xAll, if_pos hb]
theorem isr_new {w w1 : World} {T : List Bs} {N : List Int} {tv nv : Value} (hT : TextsIn w tv T) (hN : NumsIn w nv N) (hb : Below w.heap.size w w1) :
    IsR w1 (w1.alloc (.cells #[tv, nv, .string { data := #[] }, .bool false] 53)) ⟨T, N, [], false⟩ := by
  refine ⟨tv, nv, (Below.refl _ _).alloc (Nat.le_refl _) _, by rw [World.size_alloc]; exact Nat.lt_succ_self _, ?_, ?_, ?_, ?_, ?_, ?_, ?_, ?_, hT.mono hb, hN.mono hb⟩ <;> simp [go_sem]
end Go.Proofs.Ytfdffiphlpeegaa
