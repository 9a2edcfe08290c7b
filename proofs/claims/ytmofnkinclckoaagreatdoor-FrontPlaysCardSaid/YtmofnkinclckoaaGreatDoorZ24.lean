/- Contracts and mathematics: YNamed, YFirst, QM. -/
import Derived.Test.YtmofnkinclckoaaGreatDoorZ19
import Derived.Test.YtmofnkinclckoaaGreatDoorZ21
import Derived.Test.YtmofnkinclckoaaGreatDoorZ12
namespace Go.Proofs.YtmofnkinclckoaaGreatDoor
open Go.RowKit Go.Lib Go.WideShapes

def behindO : List Bs → Bs → Option Bs
  | a :: b :: r, x => if a = x then some b else behindO r x
  | _, _ => none
theorem behindO_get : ∀ (T : List Bs) (x : Bs), (behindO T x).getD [] = behindB T x
  | a :: b :: r, x => by
    show (if a = x then some b else behindO r x).getD [] = if a = x then b else behindB r x
    by_cases h : a = x
    · rw [if_pos h, if_pos h]; rfl
    · rw [if_neg h, if_neg h]; exact behindO_get r x
  | [_], _ => rfl
  | [], _ => rfl
theorem behindO_mem : ∀ {T : List Bs} {x y : Bs}, behindO T x = some y → y ∈ T
  | a :: b :: r, x, y, h => by
    have h1 : (if a = x then some b else behindO r x) = some y := h
    by_cases he : a = x
    · rw [if_pos he] at h1; cases h1; simp
    · rw [if_neg he] at h1
      have := behindO_mem h1
      simp [this]
  | [_], _, _, h => by cases h
  | [], _, _, h => by cases h
theorem behindO_drop {T : List Bs} {x : Bs} : ∀ (j : Nat), (∀ i, i < j → T[2 * i]? ≠ some x) → 2 * j ≤ T.length → behindO T x = behindO (T.drop (2 * j)) x := by
  intro j
  induction j generalizing T with
  | zero => intro _ _; rfl
  | succ j ih =>
    intro h hl
    match T, hl with
    | a :: b :: r, hl =>
      have h0 : a ≠ x := fun e => h 0 (by omega) (by rw [e]; rfl)
      have e1 : behindO (a :: b :: r) x = behindO r x := by
        show (if a = x then some b else behindO r x) = _
        rw [if_neg h0]
      rw [e1, show 2 * (j + 1) = 2 * j + 1 + 1 by omega]
      show behindO r x = behindO ((a :: b :: r).drop (2 * j + 1 + 1)) x
      rw [List.drop_succ_cons, List.drop_succ_cons]
      refine ih (fun i hi => ?_) (by simp at hl; omega)
      have := h (i + 1) (by omega)
      rw [show 2 * (i + 1) = 2 * i + 1 + 1 by omega] at this
      simpa using this
    | [a], hl => simp at hl; omega
    | [], hl => simp at hl
theorem behindO_at {T : List Bs} {x a b : Bs} {j : Nat} (h : ∀ i, i < j → T[2 * i]? ≠ some x) (ha : T[2 * j]? = some a) (hb : T[2 * j + 1]? = some b) (hx : a = x) : behindO T x = some b := by
  have hl : 2 * j < T.length := (List.getElem?_eq_some_iff.1 ha).1
  rw [behindO_drop j h (by omega)]
  have h0 : (T.drop (2 * j))[0]? = some a := by rw [List.getElem?_drop]; exact ha
  have h1 : (T.drop (2 * j))[1]? = some b := by rw [List.getElem?_drop]; exact hb
  match hd : T.drop (2 * j), h0, h1 with
  | c :: d :: r, h0, h1 =>
    cases h0; cases h1
    show (if a = x then some b else behindO r x) = some b
    rw [if_pos hx]
theorem behindO_end {T : List Bs} {x : Bs} {j : Nat} (h : ∀ i, i < j → T[2 * i]? ≠ some x) (hl : 2 * j ≤ T.length) (he : T.length ≤ 2 * j + 1) : behindO T x = none := by
  rw [behindO_drop j h hl]
  match hd : T.drop (2 * j) with
  | [] => rfl
  | [a] => rfl
  | a :: b :: r =>
    have := congrArg List.length hd
    rw [List.length_drop] at this
    simp at this
    omega
/-- Where no text is empty, a name that is not there has nothing behind it. -/
theorem behindO_none {T : List Bs} (hT : ∀ t ∈ T, t ≠ []) (x : Bs) : behindO T x = none ↔ behindB T x = [] := by
  constructor
  · intro h; rw [← behindO_get, h]; rfl
  · intro h
    cases ho : behindO T x with
    | none => rfl
    | some y =>
      rw [← behindO_get, ho] at h
      exact absurd h (hT y (behindO_mem ho))
theorem rRow_texts : ∀ (k : Nat) (s : RS) (p : Nat × RS), rRow rText k s = some p → (∀ t ∈ s.T, t ≠ []) → ∀ t ∈ p.2.T, t ≠ []
  | 0, s, p, h => by cases h
  | k + 1, s, p, h => by
    intro hs
    obtain ⟨S, T, N⟩ := s
    cases S with
    | nil => cases h
    | cons b r =>
      have h1 : (if b = 0 then some (0, (⟨r, T, N⟩ : RS)) else (rText ⟨b :: r, T, N⟩).bind fun s1 => (rRow rText k s1).map fun p => (p.1 + 1, p.2)) = some p := h
      by_cases hb : b = 0
      · rw [if_pos hb] at h1
        cases h1; exact hs
      · rw [if_neg hb] at h1
        cases ht : rText ⟨b :: r, T, N⟩ with
        | none => rw [ht] at h1; cases h1
        | some s1 =>
          rw [ht] at h1
          have h2 : (rRow rText k s1).map (fun p => (p.1 + 1, p.2)) = some p := h1
          cases hr : rRow rText k s1 with
          | none => rw [hr] at h2; cases h2
          | some p1 =>
            rw [hr] at h2
            cases h2
            refine rRow_texts k s1 p1 hr ?_
            unfold rText at ht
            split at ht
            · cases ht
              intro t hm
              rcases List.mem_append.1 hm with h3 | h3
              · exact hs t h3
              · rw [List.mem_singleton.1 h3]
                have : (b != 0) = true := by simpa using hb
                rw [List.takeWhile_cons, if_pos this]
                exact List.cons_ne_nil _ _
            · cases ht
theorem read_full {S : Bs} {T : List Bs} {N : List Int} (h : readD false 0 S = some (T, N)) : ∀ t ∈ T, t ≠ [] := by
  obtain ⟨l, q, hl, hr, rfl, rfl⟩ := readD_some h
  unfold layR at hl
  split at hl
  · cases hl
    obtain ⟨s1, h1, h2⟩ := rAll_cons hr
    obtain ⟨s2, h3, h4⟩ := rAll_cons h2
    obtain ⟨s3, h5, h6⟩ := rAll_cons h4
    obtain rfl := rAll_nil h6
    obtain ⟨n1, _, e1⟩ := rLong_keeps (show rLong ⟨S, [], []⟩ = some s1 from h1)
    obtain ⟨n2, _, e2⟩ := rLong_keeps (show rLong s1 = some s2 from h3)
    obtain ⟨n3, _, e3⟩ := rLong_keeps (show rLong s2 = some s3 from h5)
    rw [e3, e2, e1]
    intro t ht; cases ht
  · cases hl
    obtain ⟨s1, h1, h2⟩ := rAll_cons (c := 105) (l := [112]) hr
    obtain ⟨s2, h3, h4⟩ := rAll_cons h2
    obtain rfl := rAll_nil h4
    obtain ⟨n1, _, e1⟩ := rLong_keeps (show rLong ⟨S, [], []⟩ = some s1 from h1)
    have h9 : rPairs s1 = some s2 := h3
    unfold rPairs at h9
    cases hx : rRow rText s1.S.length s1 with
    | none => rw [hx] at h9; cases h9
    | some p =>
      rw [hx] at h9
      have h10 : (if p.1 % 2 = 0 then some (rKeep p.1 p.2) else none) = some s2 := h9
      split at h10
      · cases h10
        exact rRow_texts _ _ _ hx (by rw [e1]; intro t ht; cases ht)
      · cases h10

set_option maxRecDepth 100000 in
set_option maxHeartbeats 4000000 in
theorem named_any18 (x : ByteArray) (n c : Nat) (a : Option Addr) (T : List Bs) (w : World) (hT : TextsIn w (.slice a n c) T) (_ : n ≤ 800000) :
    Calls Tryz.prog 42 #[.slice a n c, .string x] w fun e w' => e = .returned (.tuple #[.string ⟨(behindB T (bytes x)).toArray⟩, .bool (behindO T (bytes x)).isSome]) ∧ w' = w := by
  obtain ⟨a', n', c', hva, hl, hnc, hc9, hr⟩ := hT
  injection hva with e1 e2 e3
  subst e1 e2 e3
  have HR := Lib.hid hr; have HL := Lib.hid hl
  clear hr hl
  go_enter Tryz.func42, Tryz.ntmps42
  go_wp2_with fail
  go_loopg [6] n (fun m i wr => ∃ k : Nat, i = .int .i64 ((2 * k : Nat) : Int) ∧ 2 * k ≤ n ∧ m = n - 2 * k ∧ wr = w ∧ ∀ i : Nat, i < k → T[2 * i]? ≠ some (bytes x))
  case atStart => exact ⟨0, rfl, Nat.zero_le _, rfl, rfl, fun i h => absurd h (Nat.not_lt_zero _)⟩
  case round =>
    obtain ⟨k, rfl, hk, hm, rfl, ho⟩ := hrel
    have HO := Lib.hid ho; have HGK := Lib.hid hm
    clear ho hm
    by_cases hlt : 2 * k + 1 < n
    · have hlt' : ((2 * k : Nat) : Int) + 1 < n := by omega
      rcases HR.out with h0 | ⟨q, off, rfl, hq, hc⟩
      · have := HL.out; rw [h0] at this; simp at this; omega
      obtain ⟨s0, hs0⟩ : ∃ s0, T[2 * k]? = some s0 := ⟨_, List.getElem?_eq_getElem (by rw [HL.out]; omega)⟩
      obtain ⟨s1, hs1⟩ : ∃ s1, T[2 * k + 1]? = some s1 := ⟨_, List.getElem?_eq_getElem (by rw [HL.out]; omega)⟩
      have c0 := hc _ _ hs0
      have c1 := hc _ _ hs1
      have HS0 := Lib.hid hs0; have HS1 := Lib.hid hs1
      by_cases he : s0 = bytes x
      · have hbeq : (s0 == x.toList) = true := by rw [Lib.toList_data]; simpa [bytes] using he
        have HRES := Lib.hid (behind_at HO.out hs0 hs1 he)
        have HREO := Lib.hid (behindO_at HO.out hs0 hs1 he)
        clear hc hs0 hs1
        go_wp2_with fail
        go_ret2
        exact ⟨by rw [HRES.out, HREO.out]; rfl, rfl⟩
      · have hbeq : (s0 == x.toList) = false := by rw [Lib.toList_data]; simpa [bytes] using he
        have HN := Lib.hid (show ∀ i : Nat, i < k + 1 → T[2 * i]? ≠ some (bytes x) from fun i hi => by
          by_cases hik : i = k
          · subst hik
            rw [HS0.out]
            exact fun e => he (Option.some.inj e)
          · exact HO.out i (by omega))
        clear hc hs0 hs1 he
        go_wp2_with fail
        go_roundg (n - 2 * (k + 1))
        case measure => have := HGK.out; omega
        case rel => exact ⟨k + 1, by go_num, by omega, rfl, rfl, HN.out⟩
    · have HRES := Lib.hid (behind_end HO.out (by rw [HL.out]; exact hk) (by rw [HL.out]; omega))
      have HREO := Lib.hid (behindO_end HO.out (by rw [HL.out]; exact hk) (by rw [HL.out]; omega))
      have hge : ¬ ((2 * k : Nat) : Int) + 1 < n := by omega
      go_wp2_with fail
      go_ret2
      exact ⟨by rw [HRES.out, HREO.out]; rfl, rfl⟩
end Go.Proofs.YtmofnkinclckoaaGreatDoor

namespace Go.Proofs.YtmofnkinclckoaaGreatDoor
open Go.RowKit Go.Lib Go.WideShapes

/-- What the event of a message leaves. -/
def FirstOut (w : World) (Q : Nat → Prop) (E : Ev) (e : Ending) (w' : World) : Prop := ∃ sl, e = .returned (evV E sl) ∧ EvNums w' Q E.n sl ∧ Below w.heap.size w w'
set_option maxRecDepth 100000 in
set_option maxHeartbeats 8000000 in
theorem first_any18 (c0 : Int) (n c m d : Nat) (a b : Option Addr) (T : List Bs) (N : List Int) (w : World) (hT : TextsIn w (.slice a n c) T) (hN : NumsIn w (.slice b m d) N) (hn : n ≤ 800000) (h0 : ∃ x r, N = x :: r ∧ (x = 80877102 → ∃ p q, r = [p, q])) (hf : ∀ t ∈ T, t ≠ []) :
    Calls Tryz.prog 28 #[.agg #[.int .u8 c0, .slice a n c, .slice b m d]] w (FirstOut w (fun g => ∃ off, b = some ⟨g, off, none⟩) (beginE T N)) := by
  obtain ⟨x, r, rfl, hx⟩ := h0
  have HN := Lib.hid hN
  obtain ⟨a', n', c', hva, hl, hnc, hc9, hr⟩ := hN
  injection hva with e1 e2 e3
  subst e1 e2 e3
  rcases hr with hr | ⟨g, off, rfl, hg, hc⟩
  · cases hr
  obtain ⟨W0, hW0⟩ : ∃ x, x = (w.alloc (.cells #[.int .u8 c0, .slice a n c, .slice (some ⟨g, off, none⟩) m d] 72)).alloc (.cells #[.int .u8 0, .string { data := #[] }, .string { data := #[] }, .string { data := #[] }, .slice none 0 0] 36) := ⟨_, rfl⟩
  have hb0 : Below w.heap.size w W0 := by rw [hW0]; exact ((Below.refl _ _).alloc (Nat.le_refl _) _).alloc (by simp) _
  have k1 : W0.cell? ⟨w.heap.size, 1, none⟩ = some (.slice a n c) := by rw [hW0]; simp [go_sem]
  have HE := Lib.hid hW0
  have HB := Lib.hid hb0
  have cx := hc 0 x rfl
  rw [Nat.add_zero] at cx
  have hm : 1 ≤ m := by simp at hl; omega
  have HL := Lib.hid hl
  have hm1 : (1 : Int) ≤ m := by omega
  have hmd : (m : Int) ≤ d := by omega
  have HBW := Lib.hid (show ∀ x0 x1 x2 x3 x4, Below w.heap.size w ((w.alloc (.cells #[.int .u8 c0, .slice a n c, .slice (some ⟨g, off, none⟩) m d] 72)).alloc (.cells #[x0, x1, x2, x3, x4] 36)) from fun x0 x1 x2 x3 x4 => ((Below.refl _ _).alloc (Nat.le_refl _) _).alloc (by simp) _)
  obtain ⟨ub, hub⟩ : ∃ x : ByteArray, x = ⟨(behindB T k_user).toArray⟩ := ⟨_, rfl⟩
  obtain ⟨db, hdb⟩ : ∃ x : ByteArray, x = ⟨(behindB T k_database).toArray⟩ := ⟨_, rfl⟩
  obtain ⟨bu, hbu⟩ : ∃ x : Bool, x = (behindO T k_user).isSome := ⟨_, rfl⟩
  obtain ⟨bd, hbd⟩ : ∃ x : Bool, x = (behindO T k_database).isSome := ⟨_, rfl⟩
  have HU := Lib.hid (show Calls Tryz.prog 42 #[.slice a n c, .string { data := #[117, 115, 101, 114] }] W0 fun e w' => e = .returned (.tuple #[.string ub, .bool bu]) ∧ w' = W0 from by rw [hub, hbu]; exact named_any18 _ n c a T W0 (hT.mono hb0) hn)
  have HD := Lib.hid (show Calls Tryz.prog 42 #[.slice a n c, .string { data := #[100, 97, 116, 97, 98, 97, 115, 101] }] W0 fun e w' => e = .returned (.tuple #[.string db, .bool bd]) ∧ w' = W0 from by rw [hdb, hbd]; exact named_any18 _ n c a T W0 (hT.mono hb0) hn)
  have HUB := Lib.hid hub; have HDB := Lib.hid hdb; have HBU := Lib.hid hbu; have HBD := Lib.hid hbd
  have HF := Lib.hid hf
  obtain ⟨EV, hEV⟩ : ∃ z, z = beginE T (x :: r) := ⟨_, rfl⟩
  have HEV := Lib.hid hEV
  rw [← hEV]
  clear hb0 hW0 hT hc hl hub hdb hbu hbd hf hEV
  go_enter Tryz.func28, Tryz.ntmps28
  by_cases h2 : x = 80877102
  · subst h2
    obtain ⟨p, q, rfl⟩ := hx rfl
    obtain rfl : m = 3 := HL.out.symm
    have hd1 : ¬ d = 1 := by omega
    have hd2 : d - 1 + 1 = d := by omega
    go_wp2_with fail
    simp [bodyPost, results, Tryz.results28, go_sem]
    rw [HEV.out, show beginE T [80877102, p, q] = ⟨99, [], [], [], [p, q]⟩ from rfl]
    exact ⟨_, rfl, ⟨_, _, _, rfl, (nums_tail HN.out).mono (((Below.refl _ _).alloc (Nat.le_refl _) _).alloc (by simp) _), fun _ g' off' e => by cases e; first | rfl | exact ⟨_, rfl⟩⟩, HBW.out _ _ _ _ _⟩
  · by_cases h1 : x = 196608
    · subst h1
      have HS0 := Lib.hid (show EV = startE T from by rw [HEV.out]; exact if_pos rfl)
      clear h2
      go_wp2_with fail
      rw [← HE.out]
      refine HU.out.mono ?_; rintro e w1 ⟨rfl, hw1⟩
      subst hw1
      go_wp2_with fail
      refine HD.out.mono ?_; rintro e w1 ⟨rfl, hw1⟩
      subst hw1
      rw [HE.out]
      clear HE HU HD k1
      cases hO : behindO T k_user with
      | none =>
        obtain rfl : bu = false := by rw [HBU.out, hO]; rfl
        have HS := Lib.hid (show EV = wrongEv c_bytes from by rw [HS0.out]; exact if_pos ((behindO_none HF.out _).1 hO))
        go_wp2_with fail
        simp [bodyPost, results, Tryz.results28, go_sem]
        rw [HS.out]
        exact ⟨_, rfl, evNums_nil _ _, HBW.out _ _ _ _ _⟩
      | some y =>
        obtain rfl : bu = true := by rw [HBU.out, hO]; rfl
        have hu : ¬ behindB T k_user = [] := fun e => by have := (behindO_none HF.out k_user).2 e; rw [hO] at this; cases this
        cases hP : behindO T k_database with
        | none =>
          obtain rfl : bd = false := by rw [HBD.out, hP]; rfl
          have HS := Lib.hid (show EV = ⟨115, behindB T k_user, behindB T k_user, [], []⟩ from by rw [HS0.out]; unfold startE; rw [if_neg hu, if_pos ((behindO_none HF.out _).1 hP)])
          clear hu
          go_wp2_with fail
          simp [bodyPost, results, Tryz.results28, go_sem]
          rw [HS.out]
          exact ⟨_, by rw [HUB.out]; rfl, evNums_nil _ _, HBW.out _ _ _ _ _⟩
        | some z =>
          obtain rfl : bd = true := by rw [HBD.out, hP]; rfl
          have hd : ¬ behindB T k_database = [] := fun e => by have := (behindO_none HF.out k_database).2 e; rw [hP] at this; cases this
          have HS := Lib.hid (show EV = ⟨115, behindB T k_user, behindB T k_database, [], []⟩ from by rw [HS0.out]; unfold startE; rw [if_neg hu, if_neg hd])
          clear hu hd
          go_wp2_with fail
          simp [bodyPost, results, Tryz.results28, go_sem]
          rw [HS.out]
          exact ⟨_, by rw [HUB.out, HDB.out]; rfl, evNums_nil _ _, HBW.out _ _ _ _ _⟩
    · have HS := Lib.hid (show EV = wrongEv c_done from by rw [HEV.out]; show (if x = 196608 then startE T else if x = 80877102 then _ else wrongEv c_done) = _; rw [if_neg h1, if_neg h2])
      have e1 : (x != 196608) = true := by simpa using h1
      have e2 : (x == 80877102) = false := by simpa using h2
      clear h1 h2
      go_wp2_with fail
      simp [bodyPost, results, Tryz.results28, go_sem]
      rw [HS.out]
      exact ⟨_, rfl, evNums_nil _ _, HBW.out _ _ _ _ _⟩
end Go.Proofs.YtmofnkinclckoaaGreatDoor

namespace Go.Proofs.YtmofnkinclckoaaGreatDoor
open Go.RowKit Go.Lib Go.WideShapes

/-- A state of the document's reader. -/
structure QS where
  s : RS
  bad : Bool
/-- The document's reader, that was made behind w0, in a message of kind k. -/
structure QAt (w0 w : World) (k : Int) (q : QS) (tv nv : Value) : Prop where
  below : Below w0.heap.size w0 w
  heap : w.heap[w0.heap.size]? = some (.cells #[.string ⟨q.s.S.toArray⟩, .int .u8 k, tv, nv, .bool q.bad] 92 (0, 0))
  texts : w.ownsRow (w0.heap.size + 1) 9 1 tv q.s.T.length (tcells q.s.T)
  nums : w.ownsRow (w0.heap.size + 1) 3 1 nv q.s.N.length (ncells q.s.N)
def IsQ (w0 w : World) (k : Int) (q : QS) : Prop := ∃ tv nv, QAt w0 w k q tv nv
theorem QAt.lt {w0 w : World} {k : Int} {q : QS} {tv nv : Value} (h : QAt w0 w k q tv nv) : w0.heap.size < w.heap.size := (Array.getElem?_eq_some_iff.1 h.heap).1
theorem QAt.cell {w0 w : World} {k : Int} {q : QS} {tv nv : Value} (h : QAt w0 w k q tv nv) : w.cell? ⟨w0.heap.size, 0, none⟩ = some (.string ⟨q.s.S.toArray⟩) ∧ w.cell? ⟨w0.heap.size, 1, none⟩ = some (.int .u8 k) ∧ w.cell? ⟨w0.heap.size, 2, none⟩ = some tv ∧ w.cell? ⟨w0.heap.size, 3, none⟩ = some nv ∧ w.cell? ⟨w0.heap.size, 4, none⟩ = some (.bool q.bad) := by
  refine ⟨?_, ?_, ?_, ?_, ?_⟩ <;> rw [cell_of_row w _ _ _ _ (0, 0) h.heap] <;> rfl
theorem QAt.frozen {w0 w : World} {k : Int} {q : QS} {tv nv : Value} (h : QAt w0 w k q tv nv) (i : Nat) : w.frozen? ⟨w0.heap.size, i, none⟩ = false := by
  simp [World.frozen?, h.heap]
theorem QAt.grow {w0 w w' : World} {k : Int} {q : QS} {tv nv : Value} (h : QAt w0 w k q tv nv) (hb : Below w.heap.size w w') : QAt w0 w' k q tv nv :=
  ⟨h.below.trans (hb.mono h.below.size), (hb.block _ h.lt).trans h.heap, own_grown h.texts hb (Nat.le_refl _), own_grown h.nums hb (Nat.le_refl _)⟩
/-- A store into the reader's own block leaves its rows. -/
theorem QAt.stored {w0 w : World} {k : Int} {q : QS} {tv nv : Value} (h : QAt w0 w k q tv nv) (i : Nat) (x : Value) :
    Below w0.heap.size w0 (w.setCell ⟨w0.heap.size, i, none⟩ x) ∧ (w.setCell ⟨w0.heap.size, i, none⟩ x).heap[w0.heap.size]? = some (.cells ((#[.string ⟨q.s.S.toArray⟩, .int .u8 k, tv, nv, .bool q.bad] : Array Value).setIfInBounds i x) 92 (0, 0)) ∧ (w.setCell ⟨w0.heap.size, i, none⟩ x).ownsRow (w0.heap.size + 1) 9 1 tv q.s.T.length (tcells q.s.T) ∧ (w.setCell ⟨w0.heap.size, i, none⟩ x).ownsRow (w0.heap.size + 1) 3 1 nv q.s.N.length (ncells q.s.N) := by
  have hk : ∀ j, j ≠ w0.heap.size → (w.setCell ⟨w0.heap.size, i, none⟩ x).heap[j]? = w.heap[j]? := fun j hj => Below.heap_setCell _ _ _ _ hj
  refine ⟨h.below.setCell (Nat.le_refl _) _, ?_, ?_, ?_⟩
  · rw [setCell_eq_setRow w _ i _ _ (0, 0) x h.heap]
    exact setRow_heap w _ _ _ _ _ h.heap
  · exact ⟨h.texts.1, h.texts.2.imp id fun ⟨g, cap, cur, e1, e2, e3, e4⟩ => ⟨g, cap, cur, e1, e2, (hk g (by omega)).trans e3, e4⟩⟩
  · exact ⟨h.nums.1, h.nums.2.imp id fun ⟨g, cap, cur, e1, e2, e3, e4⟩ => ⟨g, cap, cur, e1, e2, (hk g (by omega)).trans e3, e4⟩⟩
theorem QAt.putS {w0 w : World} {k : Int} {q : QS} {tv nv : Value} (h : QAt w0 w k q tv nv) (S : Bs) : QAt w0 (w.setCell ⟨w0.heap.size, 0, none⟩ (.string ⟨S.toArray⟩)) k ⟨{ q.s with S := S }, q.bad⟩ tv nv :=
  ⟨(h.stored 0 _).1, (h.stored 0 _).2.1, (h.stored 0 (.string ⟨S.toArray⟩)).2.2.1, (h.stored 0 (.string ⟨S.toArray⟩)).2.2.2⟩
theorem QAt.putBad {w0 w : World} {k : Int} {q : QS} {tv nv : Value} (h : QAt w0 w k q tv nv) : QAt w0 (w.setCell ⟨w0.heap.size, 4, none⟩ (.bool true)) k ⟨q.s, true⟩ tv nv :=
  ⟨(h.stored 4 _).1, (h.stored 4 _).2.1, (h.stored 4 (.bool true)).2.2.1, (h.stored 4 (.bool true)).2.2.2⟩
/-- Behind an append to a row that the reader owns, the row's cell written. -/
theorem QAt.putT {w0 w w1 : World} {k : Int} {q : QS} {tv nv tv' : Value} {T : List Bs} {o : Obj} (h : QAt w0 w k q tv nv) (hO : w1.ownsRow (w0.heap.size + 1) 9 1 tv' T.length (tcells T)) (hg : (w.alloc o).grownBy w1 tv.ownBlock) : QAt w0 (w1.setCell ⟨w0.heap.size, 2, none⟩ tv') k ⟨{ q.s with T := T }, q.bad⟩ tv' nv := by
  have hB : Below (w0.heap.size + 1) w w1 := below_grown ((Below.refl (w0.heap.size + 1) w).alloc h.lt _) (by rw [World.size_alloc]; exact Nat.le_succ_of_le h.lt) hg (fun q hq => (h.texts.lt q hq).1)
  have hN : w1.ownsRow (w0.heap.size + 1) 3 1 nv q.s.N.length (ncells q.s.N) := (h.nums.alloc o).kept hg (own_apart (h.texts.alloc o) (h.nums.alloc o) string_ne_int)
  have hh : w1.heap[w0.heap.size]? = some (.cells #[.string ⟨q.s.S.toArray⟩, .int .u8 k, tv, nv, .bool q.bad] 92 (0, 0)) := (hB.block _ (Nat.lt_succ_self _)).trans h.heap
  have hk : ∀ j, j ≠ w0.heap.size → (w1.setCell ⟨w0.heap.size, 2, none⟩ tv').heap[j]? = w1.heap[j]? := fun j hj => Below.heap_setCell _ _ _ _ hj
  refine ⟨(h.below.trans (hB.mono (Nat.le_succ _))).setCell (Nat.le_refl _) _, ?_, ?_, ?_⟩
  · rw [setCell_eq_setRow w1 _ 2 _ _ (0, 0) tv' hh]
    exact setRow_heap w1 _ _ _ _ _ hh
  · exact ⟨hO.1, hO.2.imp id fun ⟨g, cap, cur, e1, e2, e3, e4⟩ => ⟨g, cap, cur, e1, e2, (hk g (by omega)).trans e3, e4⟩⟩
  · exact ⟨hN.1, hN.2.imp id fun ⟨g, cap, cur, e1, e2, e3, e4⟩ => ⟨g, cap, cur, e1, e2, (hk g (by omega)).trans e3, e4⟩⟩
theorem QAt.putN {w0 w w1 : World} {k : Int} {q : QS} {tv nv nv' : Value} {N : List Int} {o : Obj} (h : QAt w0 w k q tv nv) (hO : w1.ownsRow (w0.heap.size + 1) 3 1 nv' N.length (ncells N)) (hg : (w.alloc o).grownBy w1 nv.ownBlock) : QAt w0 (w1.setCell ⟨w0.heap.size, 3, none⟩ nv') k ⟨{ q.s with N := N }, q.bad⟩ tv nv' := by
  have hB : Below (w0.heap.size + 1) w w1 := below_grown ((Below.refl (w0.heap.size + 1) w).alloc h.lt _) (by rw [World.size_alloc]; exact Nat.le_succ_of_le h.lt) hg (fun q hq => (h.nums.lt q hq).1)
  have hT : w1.ownsRow (w0.heap.size + 1) 9 1 tv q.s.T.length (tcells q.s.T) := (h.texts.alloc o).kept hg (own_apart (h.nums.alloc o) (h.texts.alloc o) string_ne_int.symm)
  have hh : w1.heap[w0.heap.size]? = some (.cells #[.string ⟨q.s.S.toArray⟩, .int .u8 k, tv, nv, .bool q.bad] 92 (0, 0)) := (hB.block _ (Nat.lt_succ_self _)).trans h.heap
  have hk : ∀ j, j ≠ w0.heap.size → (w1.setCell ⟨w0.heap.size, 3, none⟩ nv').heap[j]? = w1.heap[j]? := fun j hj => Below.heap_setCell _ _ _ _ hj
  refine ⟨(h.below.trans (hB.mono (Nat.le_succ _))).setCell (Nat.le_refl _) _, ?_, ?_, ?_⟩
  · rw [setCell_eq_setRow w1 _ 3 _ _ (0, 0) nv' hh]
    exact setRow_heap w1 _ _ _ _ _ hh
  · exact ⟨hT.1, hT.2.imp id fun ⟨g, cap, cur, e1, e2, e3, e4⟩ => ⟨g, cap, cur, e1, e2, (hk g (by omega)).trans e3, e4⟩⟩
  · exact ⟨hO.1, hO.2.imp id fun ⟨g, cap, cur, e1, e2, e3, e4⟩ => ⟨g, cap, cur, e1, e2, (hk g (by omega)).trans e3, e4⟩⟩

/-- How much a reader holds. -/
def qpot (s : RS) : Nat := s.S.length + (s.T.map List.length).sum + s.T.length + s.N.length
set_option maxRecDepth 100000 in
set_option maxHeartbeats 4000000 in
theorem qkeep_any (w0 w : World) (k : Int) (q : QS) (n : Int) (hr : qpot q.s ≤ 1000000) (h : IsQ w0 w k q) :
    Calls Tryz.prog 60 #[.pointer (some ⟨w0.heap.size, 0, none⟩), .int .i64 n] w fun e w' => e = .returned (.tuple #[]) ∧ IsQ w0 w' k ⟨rKeep n q.s, q.bad⟩ := by
  obtain ⟨i0, hi, y0, y1, y2⟩ := info_parts info_i64
  obtain ⟨tv, nv, hW⟩ := h
  obtain ⟨a, c, rfl⟩ := ownsRow_form hW.nums
  obtain ⟨c0, c1, c2, c3, c4⟩ := hW.cell
  have f3 := hW.frozen 3
  have hz := hW.lt
  have hl : q.s.N.length ≤ 1000000 := by unfold qpot at hr; omega
  have HW := Lib.hid hW
  clear hW c0 c1 c2 c4 hr
  go_enter Tryz.func60, Tryz.ntmps60
  go_wp2_with (at_builtin; refine wpList_append_at _ rfl (.tmp 9) (.tmp 11) 34 rfl (w0.heap.size + 1) 3 i0 (.int .i64 0) 1 8 Tryz.underlying34 hi y0 y1 y2 rfl (by decide) (.slice a q.s.N.length c) q.s.N.length (ncells q.s.N) rfl (HW.out.nums.alloc _) ⟨w.heap.size, 0, none⟩ 1 1 [.int .i64 n] rfl rfl (fun j u h => by rw [Go.WideShapes.add_plain, Nat.zero_add, ← h]; exact (World.cell?_alloc_new w _ _ j).trans (by simp)) (by intro u hu; simp at hu; rcases hu with rfl; rfl) (by unfold maxLen; omega) (by omega) (by rw [World.size_alloc]; omega) ?_)
  intro v' w1 hO hg _
  obtain ⟨a', c', rfl⟩ := ownsRow_form hO
  have hB : Below (w0.heap.size + 1) w w1 := below_grown ((Below.refl (w0.heap.size + 1) w).alloc HW.out.lt _) (by rw [World.size_alloc]; exact Nat.le_succ_of_le HW.out.lt) hg (fun q hq => (HW.out.nums.lt q hq).1)
  have e3 := (hB.cell (p := ⟨w0.heap.size, 3, none⟩) (Nat.lt_succ_self _)).trans c3
  have g3 := (hB.frozen (p := ⟨w0.heap.size, 3, none⟩) (Nat.lt_succ_self _)).trans f3
  have HP := Lib.hid (HW.out.putN (N := q.s.N ++ [n]) (by rw [ncells_append, List.length_append]; exact hO) hg)
  clear hO hg hB c3 f3
  go_wp2_with fail
  go_end0
  exact ⟨rfl, _, _, HP.out⟩
end Go.Proofs.YtmofnkinclckoaaGreatDoor
