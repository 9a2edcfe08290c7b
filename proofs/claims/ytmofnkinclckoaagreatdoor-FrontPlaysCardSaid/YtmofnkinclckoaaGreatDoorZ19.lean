/- Contracts and mathematics: KRead, KBegin, ReadOwn, Pack. -/
import Derived.Test.YtmofnkinclckoaaGreatDoorZ18
import Derived.Deep.RegionHeld3
import Derived.Test.YtmofnkinclckoaaGreatDoorZ7
import Derived.Deep.DeepAppendWide
import Derived.Test.YtmofnkinclckoaaGreatDoorRows
namespace Go.Proofs.YtmofnkinclckoaaGreatDoor
open Go.RowKit Go.Lib

theorem rLong_keeps {s s' : RS} (h : rLong s = some s') : ∃ n, s'.N = s.N ++ [n] ∧ s'.T = s.T := by
  unfold rLong rSigned rTake at h
  by_cases hl : 4 ≤ s.S.length
  · rw [if_pos hl] at h
    simp at h
    subst h
    exact ⟨_, rfl, rfl⟩
  · rw [if_neg hl] at h; cases h
theorem rText_keeps {s s' : RS} (h : rText s = some s') : ∃ t, s'.T = s.T ++ [t] ∧ s'.N = s.N := by
  unfold rText at h
  split at h
  · simp at h
    subst h
    exact ⟨_, rfl, rfl⟩
  · cases h
theorem rRow_keeps : ∀ (k : Nat) (s : RS) (p : Nat × RS), rRow rText k s = some p → p.2.N = s.N
  | 0, s, p, h => by cases h
  | k + 1, s, p, h => by
    obtain ⟨S, T, N⟩ := s
    cases S with
    | nil => cases h
    | cons b r =>
      have h1 : (if b = 0 then some (0, (⟨r, T, N⟩ : RS)) else (rText ⟨b :: r, T, N⟩).bind fun s1 => (rRow rText k s1).map fun p => (p.1 + 1, p.2)) = some p := h
      by_cases hb : b = 0
      · rw [if_pos hb] at h1
        cases h1; rfl
      · rw [if_neg hb] at h1
        cases ht : rText ⟨b :: r, T, N⟩ with
        | none => rw [ht] at h1; cases h1
        | some s1 =>
          rw [ht] at h1
          have h2 : (rRow rText k s1).map (fun p => (p.1 + 1, p.2)) = some p := h1
          cases hr : rRow rText k s1 with
          | none => rw [hr] at h2; cases h2
          | some p1 =>
            rw [hr] at h2
            cases h2
            obtain ⟨t, _, e2⟩ := rText_keeps ht
            exact (rRow_keeps k s1 p1 hr).trans e2
theorem rPairs_keeps {s s' : RS} (h : rPairs s = some s') : ∃ n, s'.N = s.N ++ [n] := by
  unfold rPairs at h
  cases hr : rRow rText s.S.length s with
  | none => rw [hr] at h; cases h
  | some p =>
    rw [hr] at h
    have h1 : (if p.1 % 2 = 0 then some (rKeep p.1 p.2) else none) = some s' := h
    split at h1
    · cases h1
      exact ⟨p.1, by unfold rKeep; rw [rRow_keeps _ _ _ hr]⟩
    · cases h1
theorem rAll_cons {c : UInt8} {l : Bs} {s s' : RS} (h : rAll (c :: l) s = some s') : ∃ s1, rField c s = some s1 ∧ rAll l s1 = some s' := by
  have h1 : (rField c s).bind (rAll l) = some s' := h
  cases hr : rField c s with
  | none => rw [hr] at h1; cases h1
  | some s1 => rw [hr] at h1; exact ⟨s1, rfl, h1⟩
theorem rAll_nil {s s' : RS} (h : rAll [] s = some s') : s = s' := Option.some.inj h
theorem readD_some {c : UInt8} {S : Bs} {T : List Bs} {N : List Int} (h : readD false c S = some (T, N)) : ∃ l q, layR false c S = some l ∧ rAll l ⟨S, [], []⟩ = some q ∧ q.T = T ∧ q.N = N := by
  unfold readD at h
  split at h
  · cases h
  unfold readL at h
  cases hl : layR false c S with
  | none => rw [hl] at h; cases h
  | some l =>
    rw [hl] at h
    have h0 : (rAll l ⟨S, [], []⟩).bind rDone = some (T, N) := h
    cases hr : rAll l ⟨S, [], []⟩ with
    | none => rw [hr] at h0; cases h0
    | some q =>
      rw [hr] at h0
      have h3 : rDone q = some (T, N) := h0
      unfold rDone at h3
      split at h3
      · cases h3
        exact ⟨l, q, rfl, hr, rfl, rfl⟩
      · cases h3
theorem read_text {c : UInt8} (hc : c = 81 ∨ c = 112) {S : Bs} {T : List Bs} {N : List Int} (h : readD false c S = some (T, N)) : ∃ t, T = [t] := by
  obtain ⟨l, q, hl, hr, rfl, rfl⟩ := readD_some h
  have hl2 : layR false c S = some [115] := by
    unfold layR
    rw [if_neg (by rintro ⟨_, h, _⟩; rcases hc with rfl | rfl <;> cases h)]
    rcases hc with rfl | rfl <;> rfl
  rw [hl2] at hl
  cases hl
  obtain ⟨s1, h1, h2⟩ := rAll_cons hr
  obtain rfl := rAll_nil h2
  obtain ⟨t, e1, _⟩ := rText_keeps (show rText ⟨S, [], []⟩ = some s1 from h1)
  exact ⟨t, e1⟩
theorem read_first {S : Bs} {T : List Bs} {N : List Int} (h : readD false 0 S = some (T, N)) : ∃ n r, N = n :: r ∧ (n = 80877102 → ∃ a b, r = [a, b]) := by
  obtain ⟨l, q, hl, hr, rfl, rfl⟩ := readD_some h
  unfold layR at hl
  split at hl
  · cases hl
    obtain ⟨s1, h1, h2⟩ := rAll_cons hr
    obtain ⟨s2, h3, h4⟩ := rAll_cons h2
    obtain ⟨s3, h5, h6⟩ := rAll_cons h4
    obtain rfl := rAll_nil h6
    obtain ⟨n1, e1, _⟩ := rLong_keeps (show rLong ⟨S, [], []⟩ = some s1 from h1)
    obtain ⟨n2, e2, _⟩ := rLong_keeps (show rLong s1 = some s2 from h3)
    obtain ⟨n3, e3, _⟩ := rLong_keeps (show rLong s2 = some s3 from h5)
    exact ⟨n1, [n2, n3], by rw [e3, e2, e1]; rfl, fun _ => ⟨_, _, rfl⟩⟩
  · rename_i hc
    cases hl
    obtain ⟨s1, h1, h2⟩ := rAll_cons (c := 105) (l := [112]) hr
    obtain ⟨s2, h3, h4⟩ := rAll_cons h2
    obtain rfl := rAll_nil h4
    obtain ⟨n1, e1, _⟩ := rLong_keeps (show rLong ⟨S, [], []⟩ = some s1 from h1)
    obtain ⟨n2, e2⟩ := rPairs_keeps (show rPairs s1 = some s2 from h3)
    refine ⟨n1, [n2], by rw [e2, e1]; rfl, fun hn => ?_⟩
    exfalso
    apply hc
    refine ⟨rfl, rfl, ?_⟩
    have h9 : rLong ⟨S, [], []⟩ = some s1 := h1
    unfold rLong rSigned rTake at h9
    by_cases hl4 : 4 ≤ S.length
    · rw [if_pos hl4] at h9
      simp at h9
      subst h9
      have : sgnM 4 (unsig (S.take 4)) = n1 := by
        have := e1
        unfold rKeep at this
        simpa using this
      unfold isCancel
      rw [this, hn]
      simp [hl4]
    · rw [if_neg hl4] at h9; cases h9
end Go.Proofs.YtmofnkinclckoaaGreatDoor

namespace Go.Proofs.YtmofnkinclckoaaGreatDoor
open Go.RowKit Go.Lib Go.WideShapes

theorem behind_drop {T : List Bs} {x : Bs} : ∀ (j : Nat), (∀ i, i < j → T[2 * i]? ≠ some x) → 2 * j ≤ T.length → behindB T x = behindB (T.drop (2 * j)) x := by
  intro j
  induction j generalizing T with
  | zero => intro _ _; rfl
  | succ j ih =>
    intro h hl
    match T, hl with
    | a :: b :: r, hl =>
      have h0 : a ≠ x := fun e => h 0 (by omega) (by rw [e]; rfl)
      have e1 : behindB (a :: b :: r) x = behindB r x := by
        show (if a = x then b else behindB r x) = _
        rw [if_neg h0]
      rw [e1, show 2 * (j + 1) = 2 * j + 1 + 1 by omega]
      show behindB r x = behindB ((a :: b :: r).drop (2 * j + 1 + 1)) x
      rw [List.drop_succ_cons, List.drop_succ_cons]
      refine ih (fun i hi => ?_) (by simp at hl; omega)
      have := h (i + 1) (by omega)
      rw [show 2 * (i + 1) = 2 * i + 1 + 1 by omega] at this
      simpa using this
    | [a], hl => simp at hl; omega
    | [], hl => simp at hl
theorem behind_at {T : List Bs} {x a b : Bs} {j : Nat} (h : ∀ i, i < j → T[2 * i]? ≠ some x) (ha : T[2 * j]? = some a) (hb : T[2 * j + 1]? = some b) (hx : a = x) : behindB T x = b := by
  have hl : 2 * j < T.length := (List.getElem?_eq_some_iff.1 ha).1
  rw [behind_drop j h (by omega)]
  have h0 : (T.drop (2 * j))[0]? = some a := by rw [List.getElem?_drop]; exact ha
  have h1 : (T.drop (2 * j))[1]? = some b := by rw [List.getElem?_drop]; exact hb
  match hd : T.drop (2 * j), h0, h1 with
  | c :: d :: r, h0, h1 =>
    cases h0; cases h1
    show (if a = x then b else behindB r x) = b
    rw [if_pos hx]
theorem behind_end {T : List Bs} {x : Bs} {j : Nat} (h : ∀ i, i < j → T[2 * i]? ≠ some x) (hl : 2 * j ≤ T.length) (he : T.length ≤ 2 * j + 1) : behindB T x = [] := by
  rw [behind_drop j h hl]
  match hd : T.drop (2 * j) with
  | [] => rfl
  | [a] => rfl
  | a :: b :: r =>
    have := congrArg List.length hd
    rw [List.length_drop] at this
    simp at this
    omega

set_option maxRecDepth 100000 in
set_option maxHeartbeats 4000000 in
theorem behind_any (x : ByteArray) (g n c : Nat) (a : Option Addr) (T : List Bs) (w : World) (hT : TextsIn w (.slice a n c) T) (hg : w.cell? ⟨g, 0, none⟩ = some (.slice a n c)) (_ : n ≤ 800000) :
    Calls Tryz.prog 58 #[.string x, .pointer (some ⟨g, 0, none⟩)] w fun e w' => e = .returned (.string ⟨(behindB T (bytes x)).toArray⟩) ∧ w' = w := by
  obtain ⟨a', n', c', hva, hl, hnc, hc9, hr⟩ := hT
  injection hva with e1 e2 e3
  subst e1 e2 e3
  have HR := Lib.hid hr; have HL := Lib.hid hl
  clear hr hl
  go_enter Tryz.func58, Tryz.ntmps58
  go_wp2_with fail
  go_loopg [4] n (fun m i wr => ∃ k : Nat, i = .int .i64 ((2 * k : Nat) : Int) ∧ 2 * k ≤ n ∧ m = n - 2 * k ∧ wr = w ∧ ∀ i : Nat, i < k → T[2 * i]? ≠ some (bytes x))
  case atStart => exact ⟨0, rfl, Nat.zero_le _, rfl, rfl, fun i h => absurd h (Nat.not_lt_zero _)⟩
  case round =>
    obtain ⟨k, rfl, hk, hm, rfl, ho⟩ := hrel
    have HO := Lib.hid ho; have HGK := Lib.hid hm
    clear ho hm
    by_cases hlt : 2 * k + 1 < n
    · have hlt' : ((2 * k : Nat) : Int) + 1 < n := by omega
      rcases HR.out with h0 | ⟨q, off, rfl, hq, hc⟩
      · have := HL.out; rw [h0] at this; simp at this; omega
      obtain ⟨s0, hs0⟩ : ∃ s0, T[2 * k]? = some s0 := ⟨_, List.getElem?_eq_getElem (by rw [HL.out]; omega)⟩
      obtain ⟨s1, hs1⟩ : ∃ s1, T[2 * k + 1]? = some s1 := ⟨_, List.getElem?_eq_getElem (by rw [HL.out]; omega)⟩
      have c0 := hc _ _ hs0
      have c1 := hc _ _ hs1
      have HS0 := Lib.hid hs0; have HS1 := Lib.hid hs1
      by_cases he : s0 = bytes x
      · have hbeq : (s0 == x.toList) = true := by rw [Lib.toList_data]; simpa [bytes] using he
        have HRES := Lib.hid (behind_at HO.out hs0 hs1 he)
        clear hc hs0 hs1
        go_wp2_with fail
        go_ret
        exact ⟨by rw [HRES.out]; rfl, rfl⟩
      · have hbeq : (s0 == x.toList) = false := by rw [Lib.toList_data]; simpa [bytes] using he
        have HN := Lib.hid (show ∀ i : Nat, i < k + 1 → T[2 * i]? ≠ some (bytes x) from fun i hi => by
          by_cases hik : i = k
          · subst hik
            rw [HS0.out]
            exact fun e => he (Option.some.inj e)
          · exact HO.out i (by omega))
        clear hc hs0 hs1 he
        go_wp2_with fail
        go_roundg (n - 2 * (k + 1))
        case measure => have := HGK.out; omega
        case rel => exact ⟨k + 1, by go_num, by omega, rfl, rfl, HN.out⟩
    · have HRES := Lib.hid (behind_end HO.out (by rw [HL.out]; exact hk) (by rw [HL.out]; omega))
      have hge : ¬ ((2 * k : Nat) : Int) + 1 < n := by omega
      go_wp2_with fail
      go_ret
      exact ⟨by rw [HRES.out]; rfl, rfl⟩

/-- An event's value. -/
abbrev evV (e : Ev) (sl : Value) : Value := .agg #[.int .u8 (e.k.toNat : Nat), .string ⟨e.u.toArray⟩, .string ⟨e.d.toArray⟩, .string ⟨e.t.toArray⟩, sl]
theorem str_empty {b : ByteArray} {l : Bs} (h : b = ⟨l.toArray⟩) (h0 : l = []) : b = { data := #[] } := by rw [h, h0]
theorem str_full {b : ByteArray} {l : Bs} (h : b = ⟨l.toArray⟩) (h0 : ¬ l = []) : b.toList.isEmpty = false := by
  rw [Lib.toList_data, h]
  cases l with
  | nil => exact absurd rfl h0
  | cons _ _ => rfl
set_option maxRecDepth 100000 in
set_option maxHeartbeats 4000000 in
theorem start_any (n c : Nat) (a : Option Addr) (T : List Bs) (w : World) (hT : TextsIn w (.slice a n c) T) (hn : n ≤ 800000) :
    Calls Tryz.prog 38 #[.slice a n c] w fun e w' => e = .returned (evV (startE T) (.slice none 0 0)) ∧ Below w.heap.size w w' := by
  obtain ⟨W0, hW0⟩ : ∃ x, x = (w.alloc (.cells #[.slice a n c] 22)).alloc (.cells #[.int .u8 0, .string { data := #[] }, .string { data := #[] }, .string { data := #[] }, .slice none 0 0] 38) := ⟨_, rfl⟩
  have hb0 : Below w.heap.size w W0 := by rw [hW0]; exact ((Below.refl _ _).alloc (Nat.le_refl _) _).alloc (by simp) _
  have hk : W0.cell? ⟨w.heap.size, 0, none⟩ = some (.slice a n c) := by rw [hW0]; simp [go_sem]
  obtain ⟨ub, hub⟩ : ∃ x : ByteArray, x = ⟨(behindB T k_user).toArray⟩ := ⟨_, rfl⟩
  obtain ⟨db, hdb⟩ : ∃ x : ByteArray, x = ⟨(behindB T k_database).toArray⟩ := ⟨_, rfl⟩
  have HU := Lib.hid (show Calls Tryz.prog 58 #[.string { data := #[117, 115, 101, 114] }, .pointer (some ⟨w.heap.size, 0, none⟩)] W0 fun e w' => e = .returned (.string ub) ∧ w' = W0 from by rw [hub]; exact behind_any _ w.heap.size n c a T W0 (hT.mono hb0) hk hn)
  have HD := Lib.hid (show Calls Tryz.prog 58 #[.string { data := #[100, 97, 116, 97, 98, 97, 115, 101] }, .pointer (some ⟨w.heap.size, 0, none⟩)] W0 fun e w' => e = .returned (.string db) ∧ w' = W0 from by rw [hdb]; exact behind_any _ w.heap.size n c a T W0 (hT.mono hb0) hk hn)
  have HE := Lib.hid hW0
  have HUB := Lib.hid hub; have HDB := Lib.hid hdb
  obtain ⟨ev, hev⟩ : ∃ v, v = evV (startE T) (.slice none 0 0) := ⟨_, rfl⟩
  rw [← hev]
  have HV := Lib.hid hev
  clear hb0 hk hW0 hT hub hdb hev
  go_enter Tryz.func38, Tryz.ntmps38
  go_wp2_with fail
  rw [← HE.out]
  refine HU.out.mono ?_; rintro e w1 ⟨rfl, hw1⟩
  subst hw1
  go_wp2_with fail
  refine HD.out.mono ?_; rintro e w1 ⟨rfl, hw1⟩
  subst hw1
  rw [HE.out]
  have hbw : ∀ x0 x1 x2 x3 x4, Below w.heap.size w ((w.alloc (.cells #[.slice a n c] 22)).alloc (.cells #[x0, x1, x2, x3, x4] 38)) := fun x0 x1 x2 x3 x4 => ((Below.refl _ _).alloc (Nat.le_refl _) _).alloc (by simp) _
  have HBW := Lib.hid hbw
  clear hbw HE
  by_cases hu : behindB T k_user = []
  · have hue := str_empty HUB.out hu
    have HS := Lib.hid (show startE T = wrongEv c_bytes from if_pos hu)
    clear HUB HU HD hu
    subst hue
    go_wp2_with fail
    simp [bodyPost, results, Tryz.results38, go_sem]
    refine ⟨?_, HBW.out _ _ _ _ _⟩
    rw [HV.out, HS.out]; rfl
  · have hue := str_full HUB.out hu
    by_cases hd : behindB T k_database = []
    · have hde := str_empty HDB.out hd
      have HS := Lib.hid (show startE T = ⟨115, behindB T k_user, behindB T k_user, [], []⟩ from by unfold startE; rw [if_neg hu, if_pos hd])
      clear HU HD hu hd
      subst hde
      go_wp2_with fail
      simp [bodyPost, results, Tryz.results38, go_sem]
      refine ⟨?_, HBW.out _ _ _ _ _⟩
      rw [HV.out, HS.out, HUB.out]; rfl
    · have hde := str_full HDB.out hd
      have HS := Lib.hid (show startE T = ⟨115, behindB T k_user, behindB T k_database, [], []⟩ from by unfold startE; rw [if_neg hu, if_neg hd])
      clear HU HD hu hd
      go_wp2_with fail
      simp [bodyPost, results, Tryz.results38, go_sem]
      refine ⟨?_, HBW.out _ _ _ _ _⟩
      rw [HV.out, HS.out, HUB.out, HDB.out]; rfl
end Go.Proofs.YtmofnkinclckoaaGreatDoor

namespace Go.Proofs.YtmofnkinclckoaaGreatDoor
open Go.Lib Go.RowKit

/-- v reads s, and owns the row that it lies in, to the row's end; the row is not block p. -/
def OwnB (w : World) (e : TypeId) (p : Nat) (v : Value) (s : ByteArray) : Prop :=
  (v = .slice none 0 0 ∧ s.size = 0) ∨ ∃ g o cap cur, v = .slice (some ⟨g, o, none⟩) s.size cap ∧ g ≠ p ∧ w.heap[g]? = some (.cells cur e (0, 0)) ∧ s.size ≤ cap ∧ cap ≤ maxLen ∧ cur.size = o + cap ∧ (cur.toList.drop o).take s.size = cellsOf s.data.toList

theorem OwnB.kept {w w' : World} {e : TypeId} {p : Nat} {v : Value} {s : ByteArray} (h : OwnB w e p v s) (hw : ∀ k, v.ownBlock = some k → w'.heap[k]? = w.heap[k]?) : OwnB w' e p v s := by
  rcases h with h | ⟨g, o, cap, cur, rfl, h1, h2, h3⟩
  · exact .inl h
  · exact .inr ⟨g, o, cap, cur, rfl, h1, (hw g rfl).trans h2, h3⟩

theorem empty_of_size {s : ByteArray} (h : s.size = 0) : s = { data := #[] } := by
  apply bytes_ext
  have := size_list s
  rw [h] at this
  simpa using List.eq_nil_of_length_eq_zero this

section
variable {P : Program} (w : World)

theorem run_append_room_at (t u ty e : TypeId) (i : TypeInfo) (ht : P.underlying t = some (.slice e)) (hu : P.underlying u = some .string) (hi : P.info? e = some i) (hs1 : i.size = 1)
    (g o sLen sCap : Nat) (cur : Array Value) (hg : w.heap[g]? = some (.cells cur e (0, 0))) (s : ByteArray)
    (hroom : sLen + s.size ≤ sCap) (hfit : o + sLen + s.size ≤ cur.size) :
    (Builtin.append_ #[t, u] ty #[.slice (some ⟨g, o, none⟩) sLen sCap, .string s]).run P w =
      .ok (.slice (some ⟨g, o, none⟩) (sLen + s.size) sCap) (w.setRow g (cur.toList.take (o + sLen) ++ strCells s ++ cur.toList.drop (o + sLen + s.size)).toArray) := by
  have hf := run_firstCells_string (P := P) w 1 s
  have hst := run_storeCells_at P g (o + sLen) e (strCells s) 0 cur w hg (by simpa [strCells_length] using hfit) (strCells_oneCell s)
  simp only [Nat.add_zero, strCells_length] at hst
  have hadd : (⟨g, o, none⟩ : Addr).add sLen = ⟨g, o + sLen, none⟩ := by unfold Addr.add; split <;> simp_all
  simp [Builtin.append_, run_underlying ht, run_underlying hu, sizeOf, typeInfo, hi, hs1, Builtin.lenOf, hroom, hf, hadd, hst]

theorem run_feed (t u ty e : TypeId) (i : TypeInfo) (ht : P.underlying t = some (.slice e)) (hu : P.underlying u = some .string) (hi : P.info? e = some i) (hz : i.zero = some (.int .u8 0)) (hsize : i.size = 1) (hby : i.bytes = 1)
    (p : Nat) (hp : p < w.heap.size) (v : Value) (s x : ByteArray) (hv : OwnB w e p v s) (hx : x.size ≤ 140737488355328) (hb : s.size + x.size ≤ 200000000000000) :
    ∃ v' w', (Builtin.append_ #[t, u] ty #[v, .string x]).run P w = .ok v' w' ∧ OwnB w' e p v' (s ++ x) ∧ w.grownBy w' v.ownBlock ∧ (∀ k, v'.ownBlock = some k → v.ownBlock = some k ∨ w.heap.size ≤ k) := by
  have hm : s.size + x.size ≤ maxLen := by unfold maxLen; omega
  rcases hv with ⟨rfl, h0⟩ | ⟨g, o, cap, cur, rfl, hgp, hg, hc, hcm, hcs, hr⟩
  · obtain ⟨v', w', hrun, hown, hgr, _⟩ := run_append_own_string (P := P) w w.heap.size t u ty e i ht hu hi hz hsize hby (.slice none 0 0) 0 [] (World.ownsRow_nil _ _ _ _) x (by omega) (by omega) (Nat.le_refl _)
    have hsx : s ++ x = x := by rw [empty_of_size h0]; apply bytes_ext; rw [append_list]; rfl
    refine ⟨v', w', hrun, ?_, hgr, fun k hk => .inr (hown.lt k hk).1⟩
    rw [hsx]
    obtain ⟨hl, hcase⟩ := hown
    rcases hcase with ⟨rfl, hn⟩ | ⟨g, cap, cur, rfl, hb', hg, hn, hcm, hcs, htake⟩
    · exact .inl ⟨rfl, by omega⟩
    · refine .inr ⟨g, 0, cap, cur, by rw [Nat.zero_add], by omega, hg, by omega, hcm, by omega, ?_⟩
      simp only [Nat.mul_one, Nat.zero_add, List.nil_append] at htake
      rw [List.drop_zero, htake, strCells_eq']
  · have hlen : (cellsOf s.data.toList).length = s.size := by rw [cellsOf_length, size_list]
    have hsz : (s ++ x).size = s.size + x.size := append_size s x
    have hcl : cellsOf (s ++ x).data.toList = cellsOf s.data.toList ++ strCells x := by rw [append_list, cellsOf_append, strCells_eq']
    by_cases hroom : s.size + x.size ≤ cap
    · have hrun := run_append_room_at (P := P) w t u ty e i ht hu hi hsize g o s.size cap cur hg x hroom (by omega)
      refine ⟨_, _, hrun, .inr ⟨g, o, cap, _, by rw [hsz], hgp, setRow_heap w g cur _ e _ hg, by omega, hcm, ?_, ?_⟩, ⟨rfl, rfl, rfl, by simp, fun k _ hk => setRow_other w g k _ (fun e => hk (by simp [Value.ownBlock, e]))⟩, fun k hk => .inl hk⟩
      · simp only [List.size_toArray, List.length_append, List.length_take, List.length_drop, Array.length_toList, strCells_length]
        omega
      · rw [hsz, hcl]
        show ((cur.toList.take (o + s.size) ++ strCells x ++ cur.toList.drop (o + s.size + x.size)).drop o).take (s.size + x.size) = _
        have hl2 : (cur.toList.take (o + s.size)).length = o + s.size := by rw [List.length_take, Array.length_toList]; omega
        rw [List.append_assoc, List.drop_append_of_le_length (by omega), List.drop_take, show o + s.size - o = s.size by omega, hr, ← List.append_assoc]
        have e3 : (cellsOf s.data.toList ++ strCells x).length = s.size + x.size := by rw [List.length_append, hlen, strCells_length]
        rw [← e3, List.take_left]
    · have holds : ∀ j u, (cellsOf s.data.toList)[j]? = some u → w.cell? ((⟨g, o, none⟩ : Addr).add j) = some u := by
        intro j u hu
        have hadd : (⟨g, o, none⟩ : Addr).add j = ⟨g, o + j, none⟩ := by unfold Addr.add; split <;> simp_all
        rw [hadd, cell_of_row w g (o + j) cur e (0, 0) hg]
        rw [← hr, List.getElem?_take] at hu
        split at hu
        · rw [List.getElem?_drop] at hu; simpa using hu
        · cases hu
      have hrun := run_append_grow_string (P := P) w t u ty e i (.int .u8 0) ht hu hi hz ⟨g, o, none⟩ s.size cap (cellsOf s.data.toList) (by rw [hsize, hlen]; omega) holds x (by omega) (by omega) (by rw [hby]; exact Go.growslice_fits_wide (by omega) (by omega))
      refine ⟨_, _, hrun, .inr ⟨w.heap.size, 0, _, _, by rw [hsz], by omega, heap_alloc_new w.drew _, ?_, grownCap_le_maxLen w _ _ _ hm, ?_, ?_⟩, ⟨rfl, rfl, rfl, by simp, fun k hk _ => heap_alloc_old w.drew _ hk⟩, fun k hk => .inr (by simp [Value.ownBlock] at hk; omega)⟩
      · rw [hsz]; exact grownCap_ge w _ _ _
      · have hz1 : (Value.int IntKind.u8 0).cells.size = 1 := rfl
        have hge := grownCap_ge w (s.size + x.size) cap e
        simp only [Array.size_append, List.size_toArray, size_zeroCells, hz1, hlen, strCells_length]
        omega
      · rw [hsz, hcl, List.drop_zero]
        simp only [Array.toList_append, List.append_assoc]
        have e3 : (cellsOf s.data.toList ++ strCells x).length = s.size + x.size := by rw [List.length_append, hlen, strCells_length]
        rw [← List.append_assoc, ← e3, List.take_left]
end
end Go.Proofs.YtmofnkinclckoaaGreatDoor

namespace Go.Proofs.YtmofnkinclckoaaGreatDoor
open Go.RowKit Go.Lib

theorem infoU8M : (Tryz.prog.info? 5).map (fun i => (i.zero, i.size, i.bytes)) = some (some (.int .u8 0), 1, 1) := by kernel_rfl

theorem four_cells (w : World) (a b c d : Value) (T : TypeId) : ∀ j u, [a, b, c, d][j]? = some u → (w.alloc (.cells #[a, b, c, d] T)).cell? ((⟨w.heap.size, 0, none⟩ : Addr).add j) = some u := by
  intro j u hj
  match j, hj with
  | 0, hj => simp at hj; subst hj; simp [Addr.add, go_sem]
  | 1, hj => simp at hj; subst hj; simp [Addr.add, go_sem]
  | 2, hj => simp at hj; subst hj; simp [Addr.add, go_sem]
  | 3, hj => simp at hj; subst hj; simp [Addr.add, go_sem]
  | n + 4, hj => simp at hj

theorem one_cell (w : World) (a : Value) (T : TypeId) : ∀ j u, [a][j]? = some u → (w.alloc (.cells #[a] T)).cell? ((⟨w.heap.size, 0, none⟩ : Addr).add j) = some u := by
  intro j u hj
  match j, hj with
  | 0, hj => simp at hj; subst hj; simp [Addr.add, go_sem]
  | n + 1, hj => simp at hj

theorem ownsRow_is {w : World} {base : Nat} {e : TypeId} {v : Value} {n : Nat} {xs : List Value} (R : ByteArray) (h : w.ownsRow base e 1 v n xs) (hx : xs = strCells R) : w.ownsRow base e 1 v R.size (strCells R) := by
  subst hx
  have hn : n = R.size := by have := h.1; rw [strCells_length] at this; omega
  subst hn; exact h

theorem pack_cells (t : Int) (s : ByteArray) (hs : s.size ≤ 10000) (pre : List Value) (hp : pre = cellsOf (if t = 0 then [] else [UInt8.ofNat t.toNat])) :
    pre ++ [.int .u8 (((s.size : Int) + 4) / 16777216), .int .u8 (((s.size : Int) + 4) / 65536), .int .u8 (((s.size : Int) + 4) / 256), .int .u8 (((s.size : Int) + 4) % 256)] ++ strCells s = strCells (packB t s) := by
  rw [strCells_eq', strCells_eq', packB_list, packL, cellsOf_append, cellsOf_append, size_list, be4_cells _ (by omega), hp]
  simp

theorem pack_long (t : Int) (s : ByteArray) (w : World) (hs : 10000 < s.size) :
    Calls Tryz.prog 22 #[.agg #[.int .u8 t, .string s]] w fun e w' => e = .returned (.tuple #[.string { data := #[] }, .int .i64 3]) ∧ Below w.heap.size w w' := by
  have h' : (10000 : Int) < s.size := by omega
  go_enter Tryz.func22, Tryz.ntmps22
  go_wp2
  go_ret2
  exact ⟨rfl, (Below.refl _ _).alloc (Nat.le_refl _) _⟩

set_option maxRecDepth 100000 in
set_option maxHeartbeats 4000000 in
theorem pack_bare (s : ByteArray) (w : World) (hs : s.size ≤ 10000) :
    Calls Tryz.prog 22 #[.agg #[.int .u8 0, .string s]] w fun e w' => e = .returned (.tuple #[.string (packB 0 s), .int .i64 0]) ∧ Below w.heap.size w w' := by
  obtain ⟨i0, hi, hz0, hz1, hz2⟩ := info_parts infoU8M
  go_enter Tryz.func22, Tryz.ntmps22
  go_wp2_with (at_make; refine wpList_make_own _ rfl _ _ 65 rfl (w.heap.size + 1) 5 i0 (.int .u8 0) 1 Tryz.underlying65 hi hz0 hz1 _ _ _ (5 + s.size) rfl rfl ?bb ?b1 ?b2 ?b3 ?_)
  case bb => simp
  case b1 => rw [hz2]; omega
  case b2 => simp [maxLen]; omega
  case b3 => simp
  intro w1 hown hgrow
  have hc0 : w1.cell? ⟨w.heap.size, 0, none⟩ = some (.int .u8 0) := hgrow.cell (by simp [go_sem]) (by simp)
  have hc1 : w1.cell? ⟨w.heap.size, 1, none⟩ = some (.string s) := hgrow.cell (by simp [go_sem]) (by simp)
  have hB : Below w.heap.size w w1 := ((Below.refl _ _).alloc (Nat.le_refl _) _).grown hgrow (by simp) (by simp)
  have hz3 : w.heap.size + 1 < w1.heap.size := (hown.lt _ rfl).2
  clear hgrow
  go_wp2_with (at_builtin; refine wpList_append_own _ rfl (.tmp 28) (.tmp 40) 65 rfl (w.heap.size + 1) 5 i0 (.int .u8 0) 1 1 Tryz.underlying65 hi hz0 hz1 hz2 rfl (by decide) _ _ _ rfl (hown.alloc _) ⟨w1.heap.size, 0, none⟩ 4 4 [.int .u8 (((s.size : Int) + 4) / 16777216), .int .u8 (((s.size : Int) + 4) / 65536), .int .u8 (((s.size : Int) + 4) / 256), .int .u8 (((s.size : Int) + 4) % 256)] rfl rfl (four_cells _ _ _ _ _ _) (by simp [Value.oneCell']) (by unfold maxLen; omega) (by omega) (by simp; omega) ?_)
  intro v3 w3 hown3 hgrow3 _
  have hlt := (hown.lt)
  have hB3 : Below w.heap.size w w3 := (hB.alloc (by omega) _).grown hgrow3 (by simp; omega) (by intro k hk; have := (hlt k hk).1; omega)
  have hc13 : w3.cell? ⟨w.heap.size, 1, none⟩ = some (.string s) := hgrow3.cell ((World.cell?_alloc_past _ _ _ (by show w.heap.size < _; omega)).trans hc1) (by intro hk; have : w.heap.size + 1 ≤ w.heap.size := (hlt _ hk.symm).1; omega)
  have hz5 : w.heap.size + 1 < w3.heap.size := by have := hgrow3.size; simp at this; omega
  clear hgrow3 hlt hown hc0 hc1 hz3 hB
  go_wp2_with (at_builtin; refine wpList_append_own_string _ rfl (.tmp 42) (.tmp 44) 65 9 rfl (w.heap.size + 1) 5 i0 Tryz.underlying65 Tryz.underlying9 hi hz0 hz1 hz2 _ _ _ rfl hown3 s rfl (by unfold maxLen; omega) (by omega) (by omega) ?_)
  intro v4 w4 hown4 hgrow4 _
  have hlt := (hown3.lt)
  have hB4 : Below w.heap.size w w4 := hB3.grown hgrow4 (by omega) (by intro k hk; have := (hlt k hk).1; omega)
  have hconv := conv_str (P := Tryz.prog) (src := 65) (e := 5) (dst := 9) (packB 0 s) Tryz.underlying65 Tryz.underlying5 Tryz.underlying9 (ownsRow_is (packB 0 s) hown4 (by exact pack_cells 0 s hs [] (by simp [cellsOf])))
  clear hgrow4 hlt hown4 hown3 hB3 hz5 hc13
  go_wp2
  go_ret2
  exact ⟨rfl, hB4⟩

set_option maxRecDepth 100000 in
set_option maxHeartbeats 4000000 in
theorem pack_type (t : Int) (s : ByteArray) (w : World) (hs : s.size ≤ 10000) (h0 : 0 < t) (h1 : t < 256) :
    Calls Tryz.prog 22 #[.agg #[.int .u8 t, .string s]] w fun e w' => e = .returned (.tuple #[.string (packB t s), .int .i64 0]) ∧ Below w.heap.size w w' := by
  obtain ⟨i0, hi, hz0, hz1, hz2⟩ := info_parts infoU8M
  have htb : (t == 0) = false := by simp; omega
  have htn : (t != 0) = true := by simp; omega
  go_enter Tryz.func22, Tryz.ntmps22
  go_wp2_with (at_make; refine wpList_make_own _ rfl _ _ 65 rfl (w.heap.size + 1) 5 i0 (.int .u8 0) 1 Tryz.underlying65 hi hz0 hz1 _ _ _ (5 + s.size) rfl rfl ?bb ?b1 ?b2 ?b3 ?_)
  case bb => simp
  case b1 => rw [hz2]; omega
  case b2 => simp [maxLen]; omega
  case b3 => simp
  intro w1 hown hgrow
  have hc0 : w1.cell? ⟨w.heap.size, 0, none⟩ = some (.int .u8 t) := hgrow.cell (by simp [go_sem]) (by simp)
  have hc1 : w1.cell? ⟨w.heap.size, 1, none⟩ = some (.string s) := hgrow.cell (by simp [go_sem]) (by simp)
  have hB : Below w.heap.size w w1 := ((Below.refl _ _).alloc (Nat.le_refl _) _).grown hgrow (by simp) (by simp)
  have hz3 : w.heap.size + 1 < w1.heap.size := (hown.lt _ rfl).2
  clear hgrow
  go_wp2_with (at_builtin; refine wpList_append_own _ rfl (.tmp 23) (.tmp 26) 65 rfl (w.heap.size + 1) 5 i0 (.int .u8 0) 1 1 Tryz.underlying65 hi hz0 hz1 hz2 rfl (by decide) _ _ _ rfl (hown.alloc _) ⟨w1.heap.size, 0, none⟩ 1 1 [.int .u8 t] rfl rfl (one_cell _ _ _) (by simp [Value.oneCell']) (by unfold maxLen; omega) (by omega) (by simp; omega) ?_)
  intro v2 w2 hown2 hgrow2 _
  have hB2 : Below w.heap.size w w2 := (hB.alloc (by omega) _).grown hgrow2 (by simp; omega) (by intro k hk; simp [Value.ownBlock] at hk; omega)
  have hc02 : w2.cell? ⟨w.heap.size, 0, none⟩ = some (.int .u8 t) := hgrow2.cell ((World.cell?_alloc_past _ _ _ (by show w.heap.size < _; omega)).trans hc0) (by simp [Value.ownBlock])
  have hc12 : w2.cell? ⟨w.heap.size, 1, none⟩ = some (.string s) := hgrow2.cell ((World.cell?_alloc_past _ _ _ (by show w.heap.size < _; omega)).trans hc1) (by simp [Value.ownBlock])
  have hz4 : w.heap.size + 1 < w2.heap.size := by have := hgrow2.size; simp at this; omega
  clear hgrow2 hown hc0 hc1 hz3 hB
  go_wp2_with (at_builtin; refine wpList_append_own _ rfl (.tmp 28) (.tmp 40) 65 rfl (w.heap.size + 1) 5 i0 (.int .u8 0) 1 1 Tryz.underlying65 hi hz0 hz1 hz2 rfl (by decide) _ _ _ rfl (hown2.alloc _) ⟨w2.heap.size, 0, none⟩ 4 4 [.int .u8 (((s.size : Int) + 4) / 16777216), .int .u8 (((s.size : Int) + 4) / 65536), .int .u8 (((s.size : Int) + 4) / 256), .int .u8 (((s.size : Int) + 4) % 256)] rfl rfl (four_cells _ _ _ _ _ _) (by simp [Value.oneCell']) (by unfold maxLen; omega) (by omega) (by simp; omega) ?_)
  intro v3 w3 hown3 hgrow3 _
  have hlt := (hown2.lt)
  have hB3 : Below w.heap.size w w3 := (hB2.alloc (by omega) _).grown hgrow3 (by simp; omega) (by intro k hk; have := (hlt k hk).1; omega)
  have hc13 : w3.cell? ⟨w.heap.size, 1, none⟩ = some (.string s) := hgrow3.cell ((World.cell?_alloc_past _ _ _ (by show w.heap.size < _; omega)).trans hc12) (by intro hk; have : w.heap.size + 1 ≤ w.heap.size := (hlt _ hk.symm).1; omega)
  have hz5 : w.heap.size + 1 < w3.heap.size := by have := hgrow3.size; simp at this; omega
  clear hgrow3 hlt hown2 hc02 hc12 hz4 hB2
  go_wp2_with (at_builtin; refine wpList_append_own_string _ rfl (.tmp 42) (.tmp 44) 65 9 rfl (w.heap.size + 1) 5 i0 Tryz.underlying65 Tryz.underlying9 hi hz0 hz1 hz2 _ _ _ rfl hown3 s rfl (by unfold maxLen; omega) (by omega) (by omega) ?_)
  intro v4 w4 hown4 hgrow4 _
  have hlt := (hown3.lt)
  have hB4 : Below w.heap.size w w4 := hB3.grown hgrow4 (by omega) (by intro k hk; have := (hlt k hk).1; omega)
  have hconv := conv_str (P := Tryz.prog) (src := 65) (e := 5) (dst := 9) (packB t s) Tryz.underlying65 Tryz.underlying5 Tryz.underlying9 (ownsRow_is (packB t s) hown4 (by exact pack_cells t s hs [.int .u8 t] (by rw [if_neg (by omega)]; simp [cellsOf]; omega)))
  clear hgrow4 hlt hown4 hown3 hB3 hz5 hc13
  go_wp2
  go_ret2
  exact ⟨rfl, hB4⟩

theorem pack_any (t : Int) (s : ByteArray) (w : World) (hs : s.size ≤ 10000) (h : 0 ≤ t ∧ t < 256) :
    Calls Tryz.prog 22 #[.agg #[.int .u8 t, .string s]] w fun e w' => e = .returned (.tuple #[.string (packB t s), .int .i64 0]) ∧ Below w.heap.size w w' := by
  by_cases h0 : t = 0
  · subst h0; exact pack_bare s w hs
  · exact pack_type t s w hs (by omega) h.2
end Go.Proofs.YtmofnkinclckoaaGreatDoor
