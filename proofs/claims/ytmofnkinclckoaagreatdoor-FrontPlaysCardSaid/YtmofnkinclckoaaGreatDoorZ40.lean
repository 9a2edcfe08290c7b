/- Contracts and mathematics: YSame, MTextOf, KStart, MTextsM, KSay, MTextsC, GQuery, KShown. -/
import Derived.Test.YtmofnkinclckoaaGreatDoorZ39
import Derived.Test.YtmofnkinclckoaaGreatDoorZ7
import Derived.Test.YtmofnkinclckoaaGreatDoorZ19
import Derived.Test.YtmofnkinclckoaaGreatDoorZ23
import Derived.Deep.Cut
import Derived.Test.YtmofnkinclckoaaGreatDoorZ11
import Derived.Test.YtmofnkinclckoaaGreatDoorZ37
namespace Go.Proofs.YtmofnkinclckoaaGreatDoor
open Go.RowKit Go.Lib Go.WideShapes

set_option maxRecDepth 100000 in
set_option maxHeartbeats 4000000 in
theorem as18_any (w : World) (k : Int) (u d t : ByteArray) (a : Option Addr) (m c : Nat) :
    Calls Tryz.prog 10 #[.agg #[.int .u8 k, .string u, .string d, .string t, .slice a m c]] w fun e w' => e = .returned (.agg #[.int .u8 k, .string u, .string d, .string t, .slice a m c]) ∧ Below w.heap.size w w' := by
  go_enter Tryz.func10, Tryz.ntmps10
  go_wp2_with fail
  simp [bodyPost, results, Tryz.results10, go_sem]
  first | exact ((Below.refl _ _).alloc (Nat.le_refl _) _).drew | exact ((Below.refl _ _).alloc (Nat.le_refl _) _).alloc (by simp) _ | exact (((Below.refl _ _).alloc (Nat.le_refl _) _).alloc (by simp) _).drew
set_option maxRecDepth 100000 in
set_option maxHeartbeats 8000000 in
theorem same18_any (w : World) (k : Int) (u d t : ByteArray) (N : List Int) (b1 b2 : Option Addr) (m1 m2 r1 r2 : Nat) (hN1 : NumsIn w (.slice b1 m1 r1) N) (hN2 : NumsIn w (.slice b2 m2 r2) N) :
    Calls Tryz.prog 9 #[.agg #[.int .u8 k, .string u, .string d, .string t, .slice b1 m1 r1], .agg #[.int .u8 k, .string u, .string d, .string t, .slice b2 m2 r2]] w fun e w' => e = .returned (.bool true) ∧ Below w.heap.size w w' := by
  obtain ⟨b1', m1', r1', e1, hn1, hd1, hx1, he1⟩ := hN1
  injection e1 with e1 e2 e3
  subst e1 e2 e3
  obtain ⟨b2', m2', r2', e1, hn2, hd2, hx2, he2⟩ := hN2
  injection e1 with e1 e2 e3
  subst e1 e2 e3
  obtain rfl : m1 = m2 := hn1.symm.trans hn2
  obtain ⟨W0, hW0⟩ : ∃ x, x = ((w.alloc (.cells #[.int .u8 k, .string u, .string d, .string t, .slice b1 m1 r1] 36)).alloc (.cells #[.int .u8 k, .string u, .string d, .string t, .slice b2 m1 r2] 36)) := ⟨_, rfl⟩
  have HB := Lib.hid (show Below w.heap.size w W0 by rw [hW0]; exact ((Below.refl _ _).alloc (Nat.le_refl _) _).alloc (by simp) _)
  have k4 : W0.cell? ⟨w.heap.size, 4, none⟩ = some (.slice b1 m1 r1) := by rw [hW0]; simp [go_sem]
  have l4 : W0.cell? ⟨w.heap.size + 1, 4, none⟩ = some (.slice b2 m1 r2) := by rw [hW0]; simp [go_sem]
  have KK := Lib.hid (And.intro k4 l4)
  have HE := Lib.hid hW0
  have HN := Lib.hid hn1
  have E1 := Lib.hid he1; have E2 := Lib.hid he2
  have q2 : (m1 : Int) ≤ 9223372036854775807 := by omega
  clear hW0 hn1 hn2 he1 he2 hd1 hd2 hx1 hx2 k4 l4
  go_enter Tryz.func9, Tryz.ntmps9
  go_wp2_with fail
  rw [← HE.out]
  go_loopw [5, 5] (fun i _ wx => ∃ j n : Nat, j ≤ m1 ∧ i = .int .i64 j ∧ wx = W0.drewN n) (fun i _ _ => m1 - (RowKit.intOf i).toNat)
  case atStart => exact ⟨0, 0, Nat.zero_le _, rfl, rfl⟩
  case round =>
    obtain ⟨j, n, hj, rfl, hW⟩ := hrel
    have HW := Lib.hid hW
    have k4 : wr.cell? ⟨w.heap.size, 4, none⟩ = some (.slice b1 m1 r1) := by rw [hW]; exact KK.out.1
    have l4 : wr.cell? ⟨w.heap.size + 1, 4, none⟩ = some (.slice b2 m1 r2) := by rw [hW]; exact KK.out.2
    have HBW := Lib.hid (show Below w.heap.size w wr by rw [hW]; exact below_drewN HB.out _)
    clear hW
    by_cases hlt : j < m1
    · have hlt' : (j : Int) < m1 := by omega
      have hj1 : j < N.length := by rw [HN.out]; exact hlt
      obtain ⟨g, off, rfl, hg, hcell⟩ := E1.out.resolve_left (fun h => by rw [h] at hj1; cases hj1)
      obtain ⟨g', off', rfl, hg', hcell'⟩ := E2.out.resolve_left (fun h => by rw [h] at hj1; cases hj1)
      have d0 := (HBW.out.cell (p := ⟨g, off + j, none⟩) hg).trans (hcell j _ (List.getElem?_eq_getElem hj1))
      have d1 := (HBW.out.cell (p := ⟨g', off' + j, none⟩) hg').trans (hcell' j _ (List.getElem?_eq_getElem hj1))
      generalize N[j] = x at d0 d1
      clear hcell hcell' hj1
      go_wp2_with fail
      go_quiet (fail)
      go_wp2_with fail
      go_roundw
      case measure => first | omega | (simp [RowKit.intOf]; omega)
      case rel =>
        exact ⟨j + 1, n + nq, by omega, by go_num, by rw [HW.out, World.drewN_drewN]⟩
    · obtain rfl : j = m1 := by omega
      clear hlt
      go_wp2_with fail
      go_ret
      exact ⟨rfl, HBW.out⟩
end Go.Proofs.YtmofnkinclckoaaGreatDoor

namespace Go.Proofs.YtmofnkinclckoaaGreatDoor
open Go.RowKit Go.Lib Go.WideShapes

theorem pack_small (c : UInt8) (s : ByteArray) (w : World) (hs : s.size ≤ 10000) :
    Calls Tryz.prog 22 #[.agg #[.int .u8 (c.toNat : Nat), .string s]] w fun e w' => e = .returned (.tuple #[.string (packB (c.toNat : Nat) s), .int .i64 0]) ∧ Below w.heap.size w w' := by
  by_cases h : c.toNat = 0
  · rw [h]; exact pack_bare s w hs
  · exact pack_type _ s w hs (by omega) (by have := UInt8.toNat_lt c; omega)

def textV (c : UInt8) (r : Option Bs) : Value := .tuple #[if encE r = 0 then .string (packB (c.toNat : Nat) ⟨(r.getD []).toArray⟩) else .string { data := #[] }, .int .i64 (encE r)]

set_option maxRecDepth 100000 in
set_option maxHeartbeats 8000000 in
theorem text_of (w : World) (back : Bool) (c : UInt8) (T : List Bs) (tv : Value) (hT : TextsIn w tv T) (hr : room ⟨T, [], []⟩ ≤ 800000) :
    Calls Tryz.prog 20 #[.bool back, .int .u8 (c.toNat : Nat), tv] w fun e w' => e = .returned (textV c (written back c T [])) ∧ Below w.heap.size w w' := by
  have HF := Lib.hid (encode_any w back c T [] tv (.slice none 0 0) hT ⟨none, 0, 0, rfl, rfl, Nat.le_refl _, by omega, .inl rfl⟩ hr)
  generalize written back c T [] = R at HF ⊢
  obtain ⟨at', nt, ct, rfl, _⟩ := hT
  clear hr
  go_enter Tryz.func20, Tryz.ntmps20
  go_wp2_with fail
  refine HF.out.mono ?_; rintro e w1 ⟨rfl, hB1⟩
  have HB1 := Lib.hid hB1
  clear hB1
  unfold encV
  by_cases he : encE R = 0
  · cases R with
    | none => cases he
    | some B =>
      have hl : (⟨B.toArray⟩ : ByteArray).size ≤ 10000 := by
        rw [bsize]
        by_cases hb : 10000 < B.length
        · have h3 : encE (some B) = 3 := if_pos hb
          rw [h3] at he; cases he
        · omega
      rw [if_pos he, he]
      go_wp2_with fail
      refine (pack_small c _ _ hl).mono ?_; rintro e w2 ⟨rfl, hB2⟩
      have HB2 := Lib.hid hB2
      clear hB2
      go_wp2_with fail
      simp [bodyPost, results, Tryz.results20, go_sem, textV, he]
      exact (HB1.out.alloc (by exact HB1.out.size) _).trans (HB2.out.mono (by rw [World.size_alloc]; exact Nat.le_succ_of_le HB1.out.size))
  · have hne : (encE R == 0) = false := by simpa using he
    rw [if_neg he]
    go_wp2_with fail
    simp [bodyPost, results, Tryz.results20, go_sem, textV, he]
    exact HB1.out.alloc (by exact HB1.out.size) _
end Go.Proofs.YtmofnkinclckoaaGreatDoor

namespace Go.Proofs.YtmofnkinclckoaaGreatDoor
open Go.RowKit Go.Lib Go.WideShapes

/-- The body of a frame that is made of what is written. -/
def bodyK (r : Option Bs) : ByteArray := if encE r = 0 then ⟨(r.getD []).toArray⟩ else { data := #[] }
/-- A first message of texts, on the wire. -/
def startK (T : List Bs) : ByteArray := packB 0 (bodyK (written false 0 T [196608, (T.length : Int)]))
theorem encK_form (r : Option Bs) : encV 0 r = .tuple #[.agg #[.int .u8 0, .string (bodyK r)], .int .i64 (encE r)] := by
  unfold encV bodyK
  by_cases h : encE r = 0
  · rw [if_pos h, if_pos h]; rfl
  · rw [if_neg h, if_neg h]
theorem bodyK_size (r : Option Bs) : (bodyK r).size ≤ 10000 := by
  unfold bodyK
  by_cases h : encE r = 0
  · rw [if_pos h]
    cases r with
    | none => cases h
    | some B =>
      have : ¬ 10000 < B.length := fun h9 => by
        have h3 : encE (some B) = 3 := if_pos h9
        rw [h3] at h; cases h
      show (B.toArray).size ≤ 10000
      simp
      omega
  · rw [if_neg h]; decide
theorem startK_size (T : List Bs) : (startK T).size ≤ 10010 := by
  have h := bodyK_size (written false 0 T [196608, (T.length : Int)])
  unfold startK packB packL
  rw [if_pos rfl]
  show Array.size _ ≤ _
  simp [be4_length]
  omega
set_option maxRecDepth 100000 in
set_option maxHeartbeats 4000000 in
theorem startK_any (a : Option Addr) (n c : Nat) (T : List Bs) (w : World) (hT : TextsIn w (.slice a n c) T) (hr : room ⟨T, [196608, (n : Int)], []⟩ ≤ 800000) :
    Calls Tryz.prog 12 #[.slice a n c] w fun e w' => e = .returned (.string (startK T)) ∧ Below w.heap.size w w' := by
  have hln : T.length = n := by obtain ⟨a', n', c', hv, hl, _⟩ := hT; injection hv with _ e _; omega
  obtain ⟨W0, hW0⟩ : ∃ x, x = w.alloc (.cells #[.int .i64 196608, .int .i64 n] 3) := ⟨_, rfl⟩
  have hb0 : Below w.heap.size w W0 := by rw [hW0]; exact (Below.refl _ _).alloc (Nat.le_refl _) _
  have hN : NumsIn W0 (.slice (some ⟨w.heap.size, 0, none⟩) 2 2) [196608, (n : Int)] := by
    refine ⟨_, 2, 2, rfl, rfl, Nat.le_refl _, by omega, .inr ⟨_, 0, rfl, by rw [hW0, World.size_alloc]; exact Nat.lt_succ_self _, ?_⟩⟩
    intro i t ht
    match i, ht with
    | 0, ht => obtain rfl := Option.some.inj ht; rw [hW0]; simp [go_sem]
    | 1, ht => obtain rfl := Option.some.inj ht; rw [hW0]; simp [go_sem]
  have HE := Lib.hid (show Calls Tryz.prog 21 #[.bool false, .agg #[.int .u8 0, .slice a n c, .slice (some ⟨w.heap.size, 0, none⟩) 2 2]] W0 (fun e w' => e = .returned (.tuple #[.agg #[.int .u8 0, .string (bodyK (written false 0 T [196608, (n : Int)]))], .int .i64 (encE (written false 0 T [196608, (n : Int)]))]) ∧ Below W0.heap.size W0 w') from by
    have := encode_any W0 false 0 T [196608, (n : Int)] _ _ (hT.mono hb0) hN hr
    rw [encK_form] at this
    exact this)
  have hz := bodyK_size (written false 0 T [196608, (n : Int)])
  have HS := Lib.hid (show startK T = packB 0 (bodyK (written false 0 T [196608, (n : Int)])) from by unfold startK; rw [hln])
  generalize written false 0 T [196608, (n : Int)] = R at HE hz HS
  have HP := Lib.hid (fun W => pack_small 0 (bodyK R) W hz)
  have HB := Lib.hid hb0; have HW := Lib.hid hW0
  generalize bodyK R = B at HE HP HS
  generalize encE R = E at HE
  rw [HS.out]
  clear hT hr hN hb0 hW0 hz HS
  go_enter Tryz.func12, Tryz.ntmps12
  go_wp2_with fail
  rw [← HW.out]
  refine HE.out.mono ?_; rintro e w1 ⟨rfl, hb⟩
  have HB1 := Lib.hid (HB.out.step hb HB.out.size)
  clear hb
  go_wp2_with fail
  refine (HP.out _).mono ?_; rintro e w2 ⟨rfl, hb⟩
  have HB2 := Lib.hid ((HB1.out.alloc HB1.out.size (.cells #[.int .u8 0, .string B] 50)).step hb (by rw [World.size_alloc]; exact Nat.le_succ_of_le HB1.out.size))
  clear hb
  go_wp2_with fail
  go_ret
  exact ⟨rfl, HB2.out⟩
end Go.Proofs.YtmofnkinclckoaaGreatDoor

namespace Go.Proofs.YtmofnkinclckoaaGreatDoor
open Go.RowKit Go.Lib Go.WideShapes

theorem text_step (t : Bs) (T : List Bs) (N : List Int) (B : Bs) : wText ⟨t :: T, N, B⟩ = if (0 : UInt8) ∈ t then none else some ⟨T, N, B ++ (t ++ [0])⟩ := rfl
theorem written_one (s : Bs) : written false 81 [s] [] = if (0 : UInt8) ∈ s then none else some (s ++ [0]) := by
  show ((wText ⟨[s], [], []⟩).bind (wAll [])).bind wDone = _
  rw [text_step]
  by_cases h : (0 : UInt8) ∈ s
  · rw [if_pos h, if_pos h]; rfl
  · rw [if_neg h, if_neg h]; rfl
theorem written_two (s t : Bs) : written true 83 [s, t] [] = if (0 : UInt8) ∈ s then none else if (0 : UInt8) ∈ t then none else some (s ++ [0] ++ (t ++ [0])) := by
  show ((wText ⟨[s, t], [], []⟩).bind (wAll [115])).bind wDone = _
  rw [text_step]
  by_cases h : (0 : UInt8) ∈ s
  · rw [if_pos h, if_pos h]; rfl
  · rw [if_neg h, if_neg h]
    show ((wText ⟨[t], [], [] ++ (s ++ [0])⟩).bind (wAll [])).bind wDone = _
    rw [text_step]
    by_cases h2 : (0 : UInt8) ∈ t
    · rw [if_pos h2, if_pos h2]; rfl
    · rw [if_neg h2, if_neg h2]; rfl
end Go.Proofs.YtmofnkinclckoaaGreatDoor

namespace Go.Proofs.YtmofnkinclckoaaGreatDoor
open Go.RowKit Go.Lib Go.WideShapes

theorem empty_append (x : ByteArray) : ({ data := #[] } : ByteArray) ++ x = x := by
  apply ByteArray.ext; apply Array.toList_inj.1; simp
theorem append_empty (x : ByteArray) : x ++ ({ data := #[] } : ByteArray) = x := by
  apply ByteArray.ext; apply Array.toList_inj.1; simp
theorem append_three (x y z : ByteArray) : (x ++ y) ++ z = x ++ (y ++ z) := by
  apply ByteArray.ext; apply Array.toList_inj.1; simp
theorem bodyK_some {B : Bs} (hl : B.length ≤ 10000) : bodyK (some B) = ⟨B.toArray⟩ := by
  unfold bodyK
  rw [if_pos (show encE (some B) = 0 from if_neg (by omega))]; rfl
theorem told_start {T : List Bs} {B : Bs} (h : written false 0 T [196608, (T.length : Int)] = some B) (hl : B.length ≤ 10000) {tail : ByteArray} {L : List Ev} {st : Option (ByteArray × Bool)} (hf : fin (startE T) = false) (ht : KTold tail true L st) : KTold (startK T ++ tail) false (startE T :: L) st := by
  have hr : readD false 0 (bytes ⟨B.toArray⟩) = some (T, [196608, (T.length : Int)]) := by
    have := read_of_written h
    unfold readD
    rw [show bytes ⟨B.toArray⟩ = B from by simp [bytes], if_neg (by omega)]
    exact this
  have e : eventE false 0 (readD false 0 (bytes ⟨B.toArray⟩)) = startE T := by rw [hr]; rfl
  have := ktold_pack (c := 0) (B := ⟨B.toArray⟩) (b := false) rfl (by show (B.toArray).size ≤ _; simp; omega) (by rw [e]; exact hf) ht
  rw [e] at this
  unfold startK
  rw [h, bodyK_some hl]
  exact this
theorem told_start_last {T : List Bs} {B : Bs} (h : written false 0 T [196608, (T.length : Int)] = some B) (hl : B.length ≤ 10000) {tail : ByteArray} (hf : fin (startE T) = true) : KTold (startK T ++ tail) false [startE T] none := by
  have hr : readD false 0 (bytes ⟨B.toArray⟩) = some (T, [196608, (T.length : Int)]) := by
    have := read_of_written h
    unfold readD
    rw [show bytes ⟨B.toArray⟩ = B from by simp [bytes], if_neg (by omega)]
    exact this
  have e : eventE false 0 (readD false 0 (bytes ⟨B.toArray⟩)) = startE T := by rw [hr]; rfl
  have := ktold_pack_last (c := 0) (B := ⟨B.toArray⟩) (tail := tail) (b := false) rfl (by show (B.toArray).size ≤ _; simp; omega) (by rw [e]; exact hf)
  rw [e] at this
  unfold startK
  rw [h, bodyK_some hl]
  exact this
/-- The event of a statement. -/
def askE (t : Bs) : Ev := ⟨113, [], [], t, []⟩
def askS (t : Bs) : ByteArray := packB 81 ⟨(t ++ [0]).toArray⟩
theorem told_ask {t : Bs} (h0 : (0 : UInt8) ∉ t) (hl : t.length ≤ 9999) {tail : ByteArray} {L : List Ev} {st : Option (ByteArray × Bool)} (ht : KTold tail true L st) : KTold (askS t ++ tail) true (askE t :: L) st := by
  have hr : readD false 81 (bytes ⟨(t ++ [0]).toArray⟩) = some ([t], []) := by
    have : readL false 81 (t ++ [0]) = some ([t], []) := read_of_written (by rw [written_one, if_neg h0])
    unfold readD
    rw [show bytes (⟨(t ++ [(0 : UInt8)]).toArray⟩ : ByteArray) = t ++ [(0 : UInt8)] from by simp [bytes], if_neg (by simp; omega)]
    exact this
  have e : eventE true 81 (readD false 81 (bytes ⟨(t ++ [0]).toArray⟩)) = askE t := by rw [hr]; rfl
  have := ktold_pack (c := 81) (B := ⟨(t ++ [0]).toArray⟩) (b := true) rfl (by show ((t ++ [0]).toArray).size ≤ _; simp; omega) (by rw [e]; rfl) ht
  rw [e] at this
  exact this
def syncE : Ev := ⟨121, [], [], [], []⟩
theorem told_sync {tail : ByteArray} {L : List Ev} {st : Option (ByteArray × Bool)} (ht : KTold tail true L st) : KTold ({ data := #[83, 0, 0, 0, 4] } ++ tail) true (syncE :: L) st := by
  have e : eventE true 83 (readD false 83 (bytes { data := #[] })) = syncE := rfl
  have := ktold_pack (c := 83) (B := { data := #[] }) (b := true) rfl (by decide) (by rw [e]; rfl) ht
  rw [e] at this
  exact this

/-- The cells of a row of events. -/
theorem EvRow.read {w : World} {B : Nat} {v : Value} {L : List Ev} (h : EvRow w B v L) (h0 : L ≠ []) : ∃ g c, v = .slice (some ⟨g, 0, none⟩) L.length c ∧ L.length ≤ c ∧ B ≤ g ∧ g < w.heap.size ∧ ∀ i E, L[i]? = some E → w.cell? ⟨g, i * 5, none⟩ = some (.int .u8 (E.k.toNat : Nat)) ∧ w.cell? ⟨g, i * 5 + 1, none⟩ = some (.string ⟨E.u.toArray⟩) ∧ w.cell? ⟨g, i * 5 + 2, none⟩ = some (.string ⟨E.d.toArray⟩) ∧ w.cell? ⟨g, i * 5 + 3, none⟩ = some (.string ⟨E.t.toArray⟩) := by
  obtain ⟨xs, hO, hX⟩ := h
  rcases hO.2 with ⟨rfl, hz⟩ | ⟨g, cap, cur, rfl, hb, hg, hn, hrest⟩
  · exact absurd (List.eq_nil_of_length_eq_zero hz) h0
  · refine ⟨g, cap, rfl, hn, hb, (Array.getElem?_eq_some_iff.1 hg).1, fun i E hi => ?_⟩
    obtain ⟨sl, c0, c1, c2, c3, _⟩ := hX i E hi
    have hc := hO.cells (g := g) rfl
    have a0 := hc _ _ c0
    have a1 := hc _ _ c1
    have a2 := hc _ _ c2
    have a3 := hc _ _ c3
    rw [Go.WideShapes.add_plain, Nat.zero_add] at a0 a1 a2 a3
    exact ⟨a0, a1, a2, a3⟩
theorem EvRow.none {w : World} {B : Nat} {v : Value} (h : EvRow w B v []) : ∃ a c, v = .slice a 0 c := by
  obtain ⟨xs, hO, _⟩ := h
  exact ownsRow_form hO
end Go.Proofs.YtmofnkinclckoaaGreatDoor

namespace Go.Proofs.YtmofnkinclckoaaGreatDoor
open Go.RowKit Go.Lib Go.WideShapes

def q1 (s : ByteArray) : ByteArray := if (0 : UInt8) ∈ bytes s then { data := #[] } else packB 81 ⟨(bytes s ++ [0]).toArray⟩
def e1 (s : ByteArray) : Int := if (0 : UInt8) ∈ bytes s then 1 else 0
def q2 (s t : ByteArray) : ByteArray := if (0 : UInt8) ∈ bytes s then { data := #[] } else if (0 : UInt8) ∈ bytes t then { data := #[] } else packB 83 ⟨(bytes s ++ [0] ++ (bytes t ++ [0])).toArray⟩
def e2 (s t : ByteArray) : Int := if (0 : UInt8) ∈ bytes s then 1 else if (0 : UInt8) ∈ bytes t then 1 else 0

theorem text_one (w : World) (s : ByteArray) (hs : s.size ≤ 3000) :
    Calls Tryz.prog 20 #[.bool false, .int .u8 81, .slice (some ⟨w.heap.size, 0, none⟩) 1 1] (w.alloc (.cells #[.string s] 9)) fun e w' => e = .returned (.tuple #[.string (q1 s), .int .i64 (e1 s)]) ∧ Below w.heap.size w w' := by
  have hT : TextsIn (w.alloc (.cells #[.string s] 9)) (.slice (some ⟨w.heap.size, 0, none⟩) 1 1) [bytes s] := by
    refine ⟨_, 1, 1, rfl, rfl, Nat.le_refl _, by omega, .inr ⟨_, 0, rfl, by rw [World.size_alloc]; exact Nat.lt_succ_self _, ?_⟩⟩
    intro i t ht
    match i, ht with
    | 0, ht => obtain rfl := Option.some.inj ht; simp [go_sem, bytes]
  have hl : (bytes s).length ≤ 3000 := by rw [blen]; exact hs
  have hr : room ⟨[bytes s], [], []⟩ ≤ 800000 := by
    unfold room
    simp only [List.map_cons, List.map_nil, List.sum_cons, List.sum_nil, List.length_nil]
    omega
  have h := text_of (w.alloc (.cells #[.string s] 9)) false 81 [bytes s] _ hT hr
  rw [written_one] at h
  refine Calls.mono (show Calls Tryz.prog 20 #[.bool false, .int .u8 81, .slice (some ⟨w.heap.size, 0, none⟩) 1 1] _ _ from h) ?_
  rintro e w' ⟨rfl, hb⟩
  refine ⟨?_, (Below.refl _ _).alloc (Nat.le_refl _) _ |>.trans (hb.mono (by rw [World.size_alloc]; omega))⟩
  unfold q1 e1
  by_cases h0 : (0 : UInt8) ∈ bytes s
  · rw [if_pos h0, if_pos h0, if_pos h0]; rfl
  · rw [if_neg h0, if_neg h0, if_neg h0]
    have hE : encE (some (bytes s ++ [0])) = 0 := if_neg (by rw [List.length_append]; simp only [List.length_cons, List.length_nil]; omega)
    unfold textV
    rw [hE]; rfl

theorem text_two (w : World) (s t : ByteArray) (hs : s.size + t.size ≤ 3000) :
    Calls Tryz.prog 20 #[.bool true, .int .u8 83, .slice (some ⟨w.heap.size, 0, none⟩) 2 2] (w.alloc (.cells #[.string s, .string t] 9)) fun e w' => e = .returned (.tuple #[.string (q2 s t), .int .i64 (e2 s t)]) ∧ Below w.heap.size w w' := by
  have hT : TextsIn (w.alloc (.cells #[.string s, .string t] 9)) (.slice (some ⟨w.heap.size, 0, none⟩) 2 2) [bytes s, bytes t] := by
    refine ⟨_, 2, 2, rfl, rfl, Nat.le_refl _, by omega, .inr ⟨_, 0, rfl, by rw [World.size_alloc]; exact Nat.lt_succ_self _, ?_⟩⟩
    intro i t ht
    match i, ht with
    | 0, ht => obtain rfl := Option.some.inj ht; simp [go_sem, bytes]
    | 1, ht => obtain rfl := Option.some.inj ht; simp [go_sem, bytes]
  have hl : (bytes s).length + (bytes t).length ≤ 3000 := by rw [blen, blen]; exact hs
  have hr : room ⟨[bytes s, bytes t], [], []⟩ ≤ 800000 := by
    unfold room
    simp only [List.map_cons, List.map_nil, List.sum_cons, List.sum_nil, List.length_nil]
    omega
  have h := text_of (w.alloc (.cells #[.string s, .string t] 9)) true 83 [bytes s, bytes t] _ hT hr
  rw [written_two] at h
  refine Calls.mono (show Calls Tryz.prog 20 #[.bool true, .int .u8 83, .slice (some ⟨w.heap.size, 0, none⟩) 2 2] _ _ from h) ?_
  rintro e w' ⟨rfl, hb⟩
  refine ⟨?_, (Below.refl _ _).alloc (Nat.le_refl _) _ |>.trans (hb.mono (by rw [World.size_alloc]; omega))⟩
  unfold q2 e2
  by_cases h0 : (0 : UInt8) ∈ bytes s
  · rw [if_pos h0, if_pos h0, if_pos h0]; rfl
  · rw [if_neg h0, if_neg h0, if_neg h0]
    by_cases h1 : (0 : UInt8) ∈ bytes t
    · rw [if_pos h1, if_pos h1, if_pos h1]; rfl
    · rw [if_neg h1, if_neg h1, if_neg h1]
      have hE : encE (some (bytes s ++ [0] ++ (bytes t ++ [0]))) = 0 := if_neg (by simp only [List.length_append, List.length_cons, List.length_nil]; omega)
      unfold textV
      rw [hE]; rfl
end Go.Proofs.YtmofnkinclckoaaGreatDoor

namespace Go.Proofs.YtmofnkinclckoaaGreatDoor
open Go.RowKit Go.Lib Go.WideShapes

def qS (s : ByteArray) : ByteArray := packB 81 ⟨(bytes s ++ [0]).toArray⟩
/-- What a query is: its bytes, and what is wrong. -/
def qV (s : ByteArray) : ByteArray × Int := if (0 : UInt8) ∈ bytes s then ({ data := #[] }, 1) else if 9999 < s.size then ({ data := #[] }, 3) else (qS s, 0)

set_option maxRecDepth 100000 in
set_option maxHeartbeats 4000000 in
theorem query_any (w : World) (s : ByteArray) (hs : s.size ≤ 100000) :
    Calls Tryz.prog 11 #[.string s] w fun e w' => e = .returned (.tuple #[.string (qV s).1, .int .i64 (qV s).2]) ∧ Below w.heap.size w w' := by
  have hT : TextsIn (w.alloc (.cells #[.string s] 9)) (.slice (some ⟨w.heap.size, 0, none⟩) 1 1) [bytes s] := by
    refine ⟨_, 1, 1, rfl, rfl, Nat.le_refl _, by omega, .inr ⟨_, 0, rfl, by rw [World.size_alloc]; exact Nat.lt_succ_self _, ?_⟩⟩
    intro i t ht
    match i, ht with
    | 0, ht => obtain rfl := Option.some.inj ht; simp [go_sem, bytes]
  have hl : (bytes s).length ≤ 100000 := by rw [blen]; exact hs
  have hr : room ⟨[bytes s], [], []⟩ ≤ 800000 := by
    unfold room
    simp only [List.map_cons, List.map_nil, List.sum_cons, List.sum_nil, List.length_nil]
    omega
  have h := text_of (w.alloc (.cells #[.string s] 9)) false 81 [bytes s] _ hT hr
  rw [written_one] at h
  have HT := Lib.hid (show Calls Tryz.prog 20 #[.bool false, .int .u8 81, .slice (some ⟨w.heap.size, 0, none⟩) 1 1] (w.alloc (.cells #[.string s] 9)) fun e w' => e = .returned (.tuple #[.string (qV s).1, .int .i64 (qV s).2]) ∧ Below w.heap.size w w' from h.mono (by
    rintro e w' ⟨rfl, hb⟩
    refine ⟨?_, ((Below.refl _ _).alloc (Nat.le_refl _) _).trans (hb.mono (by rw [World.size_alloc]; omega))⟩
    unfold qV textV
    by_cases h0 : (0 : UInt8) ∈ bytes s
    · rw [if_pos h0, if_pos h0]; rfl
    · rw [if_neg h0, if_neg h0]
      by_cases hl : 9999 < s.size
      · rw [if_pos hl]
        have hE : encE (some (bytes s ++ [0])) = 3 := if_pos (by rw [List.length_append, blen]; simp only [List.length_cons, List.length_nil]; omega)
        rw [hE]; rfl
      · rw [if_neg hl]
        have hE : encE (some (bytes s ++ [0])) = 0 := if_neg (by rw [List.length_append, blen]; simp only [List.length_cons, List.length_nil]; omega)
        rw [hE]; rfl))
  clear h hT hr hl
  go_enter Tryz.func11, Tryz.ntmps11
  go_wp2_with fail
  refine HT.out.mono ?_; rintro e w1 ⟨rfl, hb⟩
  have HB := Lib.hid hb
  clear hb
  go_wp2_with fail
  go_ret2
  exact ⟨rfl, HB.out⟩

theorem query_good {s : ByteArray} (h0 : (0 : UInt8) ∉ bytes s) (hl : s.size ≤ 9999) : qV s = (qS s, 0) := by
  unfold qV; rw [if_neg h0, if_neg (by omega)]
theorem query_read {s : Bs} (h0 : (0 : UInt8) ∉ s) : readL false 81 (s ++ [0]) = some ([s], []) := read_of_written (by rw [written_one, if_neg h0])
theorem qS_list (s : ByteArray) : bytes (qS s) = 81 :: (be4 ((bytes s ++ [0]).length + 4) ++ (bytes s ++ [0])) := by
  show packL 81 (bytes s ++ [0]) = _
  unfold packL
  rw [if_neg (by decide)]; rfl
end Go.Proofs.YtmofnkinclckoaaGreatDoor

namespace Go.Proofs.YtmofnkinclckoaaGreatDoor
open Go.RowKit Go.Lib Go.WideShapes

theorem qS_ask (s : ByteArray) : qS s = askS (bytes s) := rfl
/-- Feeding what is known to be told. -/
theorem feed_told {p q : Nat} {v : Value} {s x : ByteArray} {b : Bool} {L : List Ev} {st : Option (ByteArray × Bool)} {w : World} (h : FIs w p q v s b) (hx : s.size + x.size ≤ 1000000000) (ht : KTold (s ++ x) b L st) :
    Calls Tryz.prog 6 #[.pointer (some ⟨p, 0, none⟩), .string x] w fun e w' => ∃ tv v', e = .returned tv ∧ EvRow w' w.heap.size tv L ∧ FSt w' p q v' st ∧ TurnedF w w' p q v.ownBlock ∧ (∀ k, v'.ownBlock = some k → v.ownBlock = some k ∨ w.heap.size ≤ k) := by
  refine (feedF_any p q v s x b w h hx).mono ?_
  rintro e w' ⟨tv, L', st', v', rfl, h1, h2, h3, h4, h5⟩
  obtain ⟨rfl, rfl⟩ := ht.det h1
  exact ⟨tv, v', rfl, h2, h3, h4, h5⟩
theorem texts_two (w : World) (x y : ByteArray) : TextsIn (w.alloc (.cells #[.string x, .string y] 9)) (.slice (some ⟨w.heap.size, 0, none⟩) 2 2) [bytes x, bytes y] := by
  refine ⟨_, 2, 2, rfl, rfl, Nat.le_refl _, by omega, .inr ⟨_, 0, rfl, by rw [World.size_alloc]; exact Nat.lt_succ_self _, ?_⟩⟩
  intro i t ht
  match i, ht with
  | 0, ht => obtain rfl := Option.some.inj ht; simp [go_sem, bytes]
  | 1, ht => obtain rfl := Option.some.inj ht; simp [go_sem, bytes]
def uT : List Bs := [[117, 115, 101, 114], [117]]
def uE : Ev := ⟨115, [117], [117], [], []⟩
theorem uT_written : ∃ B, written false 0 uT [196608, (uT.length : Int)] = some B ∧ B.length ≤ 10000 := ⟨_, rfl, by decide⟩
theorem told_u {tail : ByteArray} {L : List Ev} {st : Option (ByteArray × Bool)} (ht : KTold tail true L st) : KTold (startK uT ++ tail) false (uE :: L) st := by
  obtain ⟨B, h, hl⟩ := uT_written
  exact told_start (T := uT) h hl rfl ht
/-- A first message of the user u. -/
theorem startU_any (w : World) : Calls Tryz.prog 12 #[.slice (some ⟨w.heap.size, 0, none⟩) 2 2] (w.alloc (.cells #[.string { data := #[117, 115, 101, 114] }, .string { data := #[117] }] 9)) fun e w' => e = .returned (.string (startK uT)) ∧ Below w.heap.size w w' := by
  refine (startK_any _ 2 2 uT _ (texts_two w _ _) (by decide)).mono ?_
  rintro e w' ⟨rfl, hb⟩
  exact ⟨rfl, ((Below.refl _ _).alloc (Nat.le_refl _) _).step hb (by simp)⟩
set_option maxRecDepth 100000 in
set_option maxHeartbeats 8000000 in
theorem shown18 (w : World) : Calls Tryz.prog 4 #[] w fun e w' => e = .returned (.bool true) ∧ Below w.heap.size w w' := by
  have HQ := Lib.hid (fun W => (show Calls Tryz.prog 11 #[.string { data := #[97] }] W (fun e w' => e = .returned (.tuple #[.string (askS [97]), .int .i64 0]) ∧ Below W.heap.size W w') from by
    have := query_any W { data := #[97] } (by decide)
    rw [query_good (by decide) (by decide)] at this
    exact this))
  obtain ⟨sq, hsq⟩ : ∃ z, z = askS [97] := ⟨_, rfl⟩
  obtain ⟨su, hsu⟩ : ∃ z, z = startK uT := ⟨_, rfl⟩
  have HK := Lib.hid (show KTold (({ data := #[] } : ByteArray) ++ (su ++ sq)) false [uE, askE [97]] (some ({ data := #[] }, true)) from by
    rw [empty_append, hsu, hsq]
    refine told_u ?_
    rw [← append_empty (askS [97])]
    exact told_ask (by decide) (by decide) ktold_nil)
  have hz : su.size ≤ 10010 := by rw [hsu]; exact startK_size _
  have hz2 : sq.size ≤ 100 := by rw [hsq]; decide
  have HSU := Lib.hid (fun W => startU_any W)
  rw [← hsq] at HQ
  rw [← hsu] at HSU
  clear hsq hsu
  go_enter Tryz.func4, Tryz.ntmps4
  go_wp2_with fail
  refine (newF_any w).mono ?_; rintro e w1 ⟨p, q, rfl, hF, hb, hp, hq⟩
  have HF := Lib.hid hF; have HB := Lib.hid hb
  clear hF hb
  go_wp2_with fail
  refine (HQ.out w1).mono ?_; rintro e w2 ⟨rfl, hb⟩
  have HF2 := Lib.hid (HF.out.grown hb)
  have HB2 := Lib.hid (HB.out.step hb HB.out.size)
  clear hb
  go_wp2_with fail
  refine (HSU.out w2).mono ?_; rintro e w3 ⟨rfl, hb⟩
  have HF3 := Lib.hid (HF2.out.grown hb)
  have HB3 := Lib.hid (HB2.out.step hb HB2.out.size)
  clear hb
  go_wp2_with fail
  refine (feed_told HF3.out (by rw [ByteArray.size_append]; show 0 + _ ≤ _; omega) HK.out).mono ?_; rintro e w4 ⟨tv, v', rfl, hE, hS, hT, hv⟩
  have HB4 := Lib.hid (show Below w.heap.size w w4 from by have := hT.below (B := w.heap.size) HB3.out.size hp hq (by simp [Value.ownBlock]); exact HB3.out.trans this)
  obtain ⟨g, c, rfl, hc1, hc2, hc3, hcell⟩ := hE.read (by simp)
  have hA := hcell 0 _ rfl
  have hB := hcell 1 _ rfl
  have a0 : w4.cell? ⟨g, 0, none⟩ = some (.int .u8 115) := hA.1
  have a1 : w4.cell? ⟨g, 1, none⟩ = some (.string { data := #[117] }) := hA.2.1
  have a2 : w4.cell? ⟨g, 2, none⟩ = some (.string { data := #[117] }) := hA.2.2.1
  have b0 : w4.cell? ⟨g, 5, none⟩ = some (.int .u8 113) := hB.1
  have b3 : w4.cell? ⟨g, 8, none⟩ = some (.string { data := #[97] }) := hB.2.2.2
  have hsl : (Value.slice (some ⟨g, 0, none⟩) [uE, askE [97]].length c) = .slice (some ⟨g, 0, none⟩) 2 c := rfl
  rw [hsl]
  have hc1' : (2 : Int) ≤ c := by simp at hc1; omega
  have HS := Lib.hid (show FIs w4 p q v' { data := #[] } true from hS)
  have HOV := Lib.hid (over_no p q true w4 HS.out.cell)
  clear hE hT hv hcell hS hc1 hA hB hsl
  go_wp2_with fail
  refine HOV.out.mono ?_; rintro e w5 ⟨rfl, rfl⟩
  go_wp2_with fail
  go_ret
  exact ⟨rfl, HB4.out⟩
end Go.Proofs.YtmofnkinclckoaaGreatDoor
