/- Contracts and mathematics: KStart, MTextsM, KSay, First, Take, MTextsC, GQuery, KShown, DCard, KOpen, KRow, KFeedS, KAppend, KTRow, KNamesM, MShown, MAs, MOpen. -/
import Derived.Test.YtmofnkinclckoaaDoorZ11
import Derived.Deep.Cut
import Derived.Test.YtmofnkinclckoaaDoorZ5
import Derived.Test.YtmofnkinclckoaaDoorRows
import Derived.Test.YtmofnkinclckoaaDoorZ4
import Derived.BigQuiet
import Derived.Deep.QuietTactic
import Derived.RegionTactic
import Derived.Defers
import Derived.Recover
import Derived.WalkLawsBesides
import Derived.WalkSpells
import Derived.Test.YtmofnkinclckoaaDoorZ8
import Derived.Test.YtmofnkinclckoaaDoorTie
import Derived.Test.YtmofnkinclckoaaDoorCards
import Derived.Lay
import Derived.LaidMore
import Derived.SevenTiedAt
import Derived.Stop.Joined
import Derived.HandedShaped
import Derived.SizedLaws
import Derived.ChangeSlices
import Derived.ChangeAlike
import Derived.OpenShut
import Derived.Deep.SlicePairs
import Derived.SliceStrings
import Derived.Lib.SmallJoins
namespace Go.Proofs.YtmofnkinclckoaaDoor
open Go.RowKit Go.Lib Go.WideShapes

/-- The body of a frame that is made of what is written. -/
def bodyK (r : Option Bs) : ByteArray := if encE r = 0 then ⟨(r.getD []).toArray⟩ else { data := #[] }
/-- A first message of texts, on the wire. -/
def startK (T : List Bs) : ByteArray := packB 0 (bodyK (written false 0 T [196608, (T.length : Int)]))
theorem encK_form (r : Option Bs) : encV 0 r = .tuple #[.agg #[.int .u8 0, .string (bodyK r)], .int .i64 (encE r)] := by
  unfold encV bodyK
  by_cases h : encE r = 0
  · rw [if_pos h, if_pos h]; rfl
  · rw [if_neg h, if_neg h]
theorem bodyK_size (r : Option Bs) : (bodyK r).size ≤ 10000 := by
  unfold bodyK
  by_cases h : encE r = 0
  · rw [if_pos h]
    cases r with
    | none => cases h
    | some B =>
      have : ¬ 10000 < B.length := fun h9 => by
        have h3 : encE (some B) = 3 := if_pos h9
        rw [h3] at h; cases h
      show (B.toArray).size ≤ 10000
      simp
      omega
  · rw [if_neg h]; decide
theorem startK_size (T : List Bs) : (startK T).size ≤ 10010 := by
  have h := bodyK_size (written false 0 T [196608, (T.length : Int)])
  unfold startK packB packL
  rw [if_pos rfl]
  show Array.size _ ≤ _
  simp [be4_length]
  omega
set_option maxRecDepth 100000 in
set_option maxHeartbeats 4000000 in
theorem startK_any (a : Option Addr) (n c : Nat) (T : List Bs) (w : World) (hT : TextsIn w (.slice a n c) T) (hr : room ⟨T, [196608, (n : Int)], []⟩ ≤ 800000) :
    Calls Tryd.prog 9 #[.slice a n c] w fun e w' => e = .returned (.string (startK T)) ∧ Below w.heap.size w w' := by
  have hln : T.length = n := by obtain ⟨a', n', c', hv, hl, _⟩ := hT; injection hv with _ e _; omega
  obtain ⟨W0, hW0⟩ : ∃ x, x = w.alloc (.cells #[.int .i64 196608, .int .i64 n] 3) := ⟨_, rfl⟩
  have hb0 : Below w.heap.size w W0 := by rw [hW0]; exact (Below.refl _ _).alloc (Nat.le_refl _) _
  have hN : NumsIn W0 (.slice (some ⟨w.heap.size, 0, none⟩) 2 2) [196608, (n : Int)] := by
    refine ⟨_, 2, 2, rfl, rfl, Nat.le_refl _, by omega, .inr ⟨_, 0, rfl, by rw [hW0, World.size_alloc]; exact Nat.lt_succ_self _, ?_⟩⟩
    intro i t ht
    match i, ht with
    | 0, ht => obtain rfl := Option.some.inj ht; rw [hW0]; simp [go_sem]
    | 1, ht => obtain rfl := Option.some.inj ht; rw [hW0]; simp [go_sem]
  have HE := Lib.hid (show Calls Tryd.prog 16 #[.bool false, .agg #[.int .u8 0, .slice a n c, .slice (some ⟨w.heap.size, 0, none⟩) 2 2]] W0 (fun e w' => e = .returned (.tuple #[.agg #[.int .u8 0, .string (bodyK (written false 0 T [196608, (n : Int)]))], .int .i64 (encE (written false 0 T [196608, (n : Int)]))]) ∧ Below W0.heap.size W0 w') from by
    have := encode_any W0 false 0 T [196608, (n : Int)] _ _ (hT.mono hb0) hN hr
    rw [encK_form] at this
    exact this)
  have hz := bodyK_size (written false 0 T [196608, (n : Int)])
  have HS := Lib.hid (show startK T = packB 0 (bodyK (written false 0 T [196608, (n : Int)])) from by unfold startK; rw [hln])
  generalize written false 0 T [196608, (n : Int)] = R at HE hz HS
  have HP := Lib.hid (fun W => pack_small 0 (bodyK R) W hz)
  have HB := Lib.hid hb0; have HW := Lib.hid hW0
  generalize bodyK R = B at HE HP HS
  generalize encE R = E at HE
  rw [HS.out]
  clear hT hr hN hb0 hW0 hz HS
  go_enter Tryd.func9, Tryd.ntmps9
  go_wp2_with fail
  rw [← HW.out]
  refine HE.out.mono ?_; rintro e w1 ⟨rfl, hb⟩
  have HB1 := Lib.hid (HB.out.step hb HB.out.size)
  clear hb
  go_wp2_with fail
  refine (HP.out _).mono ?_; rintro e w2 ⟨rfl, hb⟩
  have HB2 := Lib.hid ((HB1.out.alloc HB1.out.size (.cells #[.int .u8 0, .string B] 45)).step hb (by rw [World.size_alloc]; exact Nat.le_succ_of_le HB1.out.size))
  clear hb
  go_wp2_with fail
  go_ret
  exact ⟨rfl, HB2.out⟩
end Go.Proofs.YtmofnkinclckoaaDoor

namespace Go.Proofs.YtmofnkinclckoaaDoor
open Go.RowKit Go.Lib Go.WideShapes

theorem text_step (t : Bs) (T : List Bs) (N : List Int) (B : Bs) : wText ⟨t :: T, N, B⟩ = if (0 : UInt8) ∈ t then none else some ⟨T, N, B ++ (t ++ [0])⟩ := rfl
theorem written_one (s : Bs) : written false 81 [s] [] = if (0 : UInt8) ∈ s then none else some (s ++ [0]) := by
  show ((wText ⟨[s], [], []⟩).bind (wAll [])).bind wDone = _
  rw [text_step]
  by_cases h : (0 : UInt8) ∈ s
  · rw [if_pos h, if_pos h]; rfl
  · rw [if_neg h, if_neg h]; rfl
end Go.Proofs.YtmofnkinclckoaaDoor

namespace Go.Proofs.YtmofnkinclckoaaDoor
open Go.RowKit Go.Lib Go.WideShapes

theorem empty_append (x : ByteArray) : ({ data := #[] } : ByteArray) ++ x = x := by
  apply ByteArray.ext; apply Array.toList_inj.1; simp
theorem append_empty (x : ByteArray) : x ++ ({ data := #[] } : ByteArray) = x := by
  apply ByteArray.ext; apply Array.toList_inj.1; simp
theorem append_three (x y z : ByteArray) : (x ++ y) ++ z = x ++ (y ++ z) := by
  apply ByteArray.ext; apply Array.toList_inj.1; simp
theorem bodyK_some {B : Bs} (hl : B.length ≤ 10000) : bodyK (some B) = ⟨B.toArray⟩ := by
  unfold bodyK
  rw [if_pos (show encE (some B) = 0 from if_neg (by omega))]; rfl
theorem told_start {T : List Bs} {B : Bs} (h : written false 0 T [196608, (T.length : Int)] = some B) (hl : B.length ≤ 10000) {tail : ByteArray} {L : List Ev} {st : Option (ByteArray × Bool)} (hf : fin (startE T) = false) (ht : KTold tail true L st) : KTold (startK T ++ tail) false (startE T :: L) st := by
  have hr : readD false 0 (bytes ⟨B.toArray⟩) = some (T, [196608, (T.length : Int)]) := by
    have := read_of_written h
    unfold readD
    rw [show bytes ⟨B.toArray⟩ = B from by simp [bytes], if_neg (by omega)]
    exact this
  have e : eventE false 0 (readD false 0 (bytes ⟨B.toArray⟩)) = startE T := by rw [hr]; rfl
  have := ktold_pack (c := 0) (B := ⟨B.toArray⟩) (b := false) rfl (by show (B.toArray).size ≤ _; simp; omega) (by rw [e]; exact hf) ht
  rw [e] at this
  unfold startK
  rw [h, bodyK_some hl]
  exact this
/-- The event of a statement. -/
def askE (t : Bs) : Ev := ⟨113, [], [], t, []⟩
def askS (t : Bs) : ByteArray := packB 81 ⟨(t ++ [0]).toArray⟩
theorem told_ask {t : Bs} (h0 : (0 : UInt8) ∉ t) (hl : t.length ≤ 9999) {tail : ByteArray} {L : List Ev} {st : Option (ByteArray × Bool)} (ht : KTold tail true L st) : KTold (askS t ++ tail) true (askE t :: L) st := by
  have hr : readD false 81 (bytes ⟨(t ++ [0]).toArray⟩) = some ([t], []) := by
    have : readL false 81 (t ++ [0]) = some ([t], []) := read_of_written (by rw [written_one, if_neg h0])
    unfold readD
    rw [show bytes (⟨(t ++ [(0 : UInt8)]).toArray⟩ : ByteArray) = t ++ [(0 : UInt8)] from by simp [bytes], if_neg (by simp; omega)]
    exact this
  have e : eventE true 81 (readD false 81 (bytes ⟨(t ++ [0]).toArray⟩)) = askE t := by rw [hr]; rfl
  have := ktold_pack (c := 81) (B := ⟨(t ++ [0]).toArray⟩) (b := true) rfl (by show ((t ++ [0]).toArray).size ≤ _; simp; omega) (by rw [e]; rfl) ht
  rw [e] at this
  exact this
def syncE : Ev := ⟨121, [], [], [], []⟩
theorem told_sync {tail : ByteArray} {L : List Ev} {st : Option (ByteArray × Bool)} (ht : KTold tail true L st) : KTold ({ data := #[83, 0, 0, 0, 4] } ++ tail) true (syncE :: L) st := by
  have e : eventE true 83 (readD false 83 (bytes { data := #[] })) = syncE := rfl
  have := ktold_pack (c := 83) (B := { data := #[] }) (b := true) rfl (by decide) (by rw [e]; rfl) ht
  rw [e] at this
  exact this

/-- The cells of a row of events. -/
theorem EvRow.read {w : World} {B : Nat} {v : Value} {L : List Ev} (h : EvRow w B v L) (h0 : L ≠ []) : ∃ g c, v = .slice (some ⟨g, 0, none⟩) L.length c ∧ L.length ≤ c ∧ B ≤ g ∧ g < w.heap.size ∧ ∀ i E, L[i]? = some E → w.cell? ⟨g, i * 5, none⟩ = some (.int .u8 (E.k.toNat : Nat)) ∧ w.cell? ⟨g, i * 5 + 1, none⟩ = some (.string ⟨E.u.toArray⟩) ∧ w.cell? ⟨g, i * 5 + 2, none⟩ = some (.string ⟨E.d.toArray⟩) ∧ w.cell? ⟨g, i * 5 + 3, none⟩ = some (.string ⟨E.t.toArray⟩) := by
  obtain ⟨xs, hO, hX⟩ := h
  rcases hO.2 with ⟨rfl, hz⟩ | ⟨g, cap, cur, rfl, hb, hg, hn, hrest⟩
  · exact absurd (List.eq_nil_of_length_eq_zero hz) h0
  · refine ⟨g, cap, rfl, hn, hb, (Array.getElem?_eq_some_iff.1 hg).1, fun i E hi => ?_⟩
    obtain ⟨sl, c0, c1, c2, c3, _⟩ := hX i E hi
    have hc := hO.cells (g := g) rfl
    have a0 := hc _ _ c0
    have a1 := hc _ _ c1
    have a2 := hc _ _ c2
    have a3 := hc _ _ c3
    rw [Go.WideShapes.add_plain, Nat.zero_add] at a0 a1 a2 a3
    exact ⟨a0, a1, a2, a3⟩
theorem EvRow.none {w : World} {B : Nat} {v : Value} (h : EvRow w B v []) : ∃ a c, v = .slice a 0 c := by
  obtain ⟨xs, hO, _⟩ := h
  exact ownsRow_form hO
end Go.Proofs.YtmofnkinclckoaaDoor

namespace Go.Proofs.YtmofnkinclckoaaDoor
open Go.RowKit Go.Lib

@[go_sem, simp] theorem setCell_drewNM (w : World) (k : Nat) (a : Addr) (v : Value) : (w.drewN k).setCell a v = (w.setCell a v).drewN k := rfl

/-- The three blocks that the results lie in. -/
def three (w : World) (t : Int) (s : ByteArray) (n e : Int) : World :=
  ((w.alloc (.cells #[.int .u8 t, .string s] 45)).alloc (.cells #[.int .i64 n] 3)).alloc (.cells #[.int .i64 e] 28)

end Go.Proofs.YtmofnkinclckoaaDoor

namespace Go.Proofs.YtmofnkinclckoaaDoor
open Go.RowKit Go.Lib

end Go.Proofs.YtmofnkinclckoaaDoor

namespace Go.Proofs.YtmofnkinclckoaaDoor
open Go.RowKit Go.Lib Go.WideShapes

def q1 (s : ByteArray) : ByteArray := if (0 : UInt8) ∈ bytes s then { data := #[] } else packB 81 ⟨(bytes s ++ [0]).toArray⟩
def e1 (s : ByteArray) : Int := if (0 : UInt8) ∈ bytes s then 1 else 0
def q2 (s t : ByteArray) : ByteArray := if (0 : UInt8) ∈ bytes s then { data := #[] } else if (0 : UInt8) ∈ bytes t then { data := #[] } else packB 83 ⟨(bytes s ++ [0] ++ (bytes t ++ [0])).toArray⟩
def e2 (s t : ByteArray) : Int := if (0 : UInt8) ∈ bytes s then 1 else if (0 : UInt8) ∈ bytes t then 1 else 0

end Go.Proofs.YtmofnkinclckoaaDoor

namespace Go.Proofs.YtmofnkinclckoaaDoor
open Go.RowKit Go.Lib Go.WideShapes

def qS (s : ByteArray) : ByteArray := packB 81 ⟨(bytes s ++ [0]).toArray⟩
/-- What a query is: its bytes, and what is wrong. -/
def qV (s : ByteArray) : ByteArray × Int := if (0 : UInt8) ∈ bytes s then ({ data := #[] }, 1) else if 9999 < s.size then ({ data := #[] }, 3) else (qS s, 0)

set_option maxRecDepth 100000 in
set_option maxHeartbeats 4000000 in
theorem query_any (w : World) (s : ByteArray) (hs : s.size ≤ 100000) :
    Calls Tryd.prog 10 #[.string s] w fun e w' => e = .returned (.tuple #[.string (qV s).1, .int .i64 (qV s).2]) ∧ Below w.heap.size w w' := by
  have hT : TextsIn (w.alloc (.cells #[.string s] 9)) (.slice (some ⟨w.heap.size, 0, none⟩) 1 1) [bytes s] := by
    refine ⟨_, 1, 1, rfl, rfl, Nat.le_refl _, by omega, .inr ⟨_, 0, rfl, by rw [World.size_alloc]; exact Nat.lt_succ_self _, ?_⟩⟩
    intro i t ht
    match i, ht with
    | 0, ht => obtain rfl := Option.some.inj ht; simp [go_sem, bytes]
  have hl : (bytes s).length ≤ 100000 := by rw [blen]; exact hs
  have hr : room ⟨[bytes s], [], []⟩ ≤ 800000 := by
    unfold room
    simp only [List.map_cons, List.map_nil, List.sum_cons, List.sum_nil, List.length_nil]
    omega
  have h := text_of (w.alloc (.cells #[.string s] 9)) false 81 [bytes s] _ hT hr
  rw [written_one] at h
  have HT := Lib.hid (show Calls Tryd.prog 18 #[.bool false, .int .u8 81, .slice (some ⟨w.heap.size, 0, none⟩) 1 1] (w.alloc (.cells #[.string s] 9)) fun e w' => e = .returned (.tuple #[.string (qV s).1, .int .i64 (qV s).2]) ∧ Below w.heap.size w w' from h.mono (by
    rintro e w' ⟨rfl, hb⟩
    refine ⟨?_, ((Below.refl _ _).alloc (Nat.le_refl _) _).trans (hb.mono (by rw [World.size_alloc]; omega))⟩
    unfold qV textV
    by_cases h0 : (0 : UInt8) ∈ bytes s
    · rw [if_pos h0, if_pos h0]; rfl
    · rw [if_neg h0, if_neg h0]
      by_cases hl : 9999 < s.size
      · rw [if_pos hl]
        have hE : encE (some (bytes s ++ [0])) = 3 := if_pos (by rw [List.length_append, blen]; simp only [List.length_cons, List.length_nil]; omega)
        rw [hE]; rfl
      · rw [if_neg hl]
        have hE : encE (some (bytes s ++ [0])) = 0 := if_neg (by rw [List.length_append, blen]; simp only [List.length_cons, List.length_nil]; omega)
        rw [hE]; rfl))
  clear h hT hr hl
  go_enter Tryd.func10, Tryd.ntmps10
  go_wp2_with fail
  refine HT.out.mono ?_; rintro e w1 ⟨rfl, hb⟩
  have HB := Lib.hid hb
  clear hb
  go_wp2_with fail
  go_ret2
  exact ⟨rfl, HB.out⟩

theorem query_good {s : ByteArray} (h0 : (0 : UInt8) ∉ bytes s) (hl : s.size ≤ 9999) : qV s = (qS s, 0) := by
  unfold qV; rw [if_neg h0, if_neg (by omega)]
end Go.Proofs.YtmofnkinclckoaaDoor

namespace Go.Proofs.YtmofnkinclckoaaDoor
open Go.RowKit Go.Lib Go.WideShapes

theorem qS_ask (s : ByteArray) : qS s = askS (bytes s) := rfl
/-- Feeding what is known to be told. -/
theorem feed_told {p q : Nat} {v : Value} {s x : ByteArray} {b : Bool} {L : List Ev} {st : Option (ByteArray × Bool)} {w : World} (h : FIs w p q v s b) (hx : s.size + x.size ≤ 1000000000) (ht : KTold (s ++ x) b L st) :
    Calls Tryd.prog 13 #[.pointer (some ⟨p, 0, none⟩), .string x] w fun e w' => ∃ tv v', e = .returned tv ∧ EvRow w' w.heap.size tv L ∧ FSt w' p q v' st ∧ TurnedF w w' p q v.ownBlock ∧ (∀ k, v'.ownBlock = some k → v.ownBlock = some k ∨ w.heap.size ≤ k) := by
  refine (feedF_any p q v s x b w h hx).mono ?_
  rintro e w' ⟨tv, L', st', v', rfl, h1, h2, h3, h4, h5⟩
  obtain ⟨rfl, rfl⟩ := ht.det h1
  exact ⟨tv, v', rfl, h2, h3, h4, h5⟩
theorem texts_two (w : World) (x y : ByteArray) : TextsIn (w.alloc (.cells #[.string x, .string y] 9)) (.slice (some ⟨w.heap.size, 0, none⟩) 2 2) [bytes x, bytes y] := by
  refine ⟨_, 2, 2, rfl, rfl, Nat.le_refl _, by omega, .inr ⟨_, 0, rfl, by rw [World.size_alloc]; exact Nat.lt_succ_self _, ?_⟩⟩
  intro i t ht
  match i, ht with
  | 0, ht => obtain rfl := Option.some.inj ht; simp [go_sem, bytes]
  | 1, ht => obtain rfl := Option.some.inj ht; simp [go_sem, bytes]
def uT : List Bs := [[117, 115, 101, 114], [117]]
def uE : Ev := ⟨115, [117], [117], [], []⟩
theorem uT_written : ∃ B, written false 0 uT [196608, (uT.length : Int)] = some B ∧ B.length ≤ 10000 := ⟨_, rfl, by decide⟩
theorem told_u {tail : ByteArray} {L : List Ev} {st : Option (ByteArray × Bool)} (ht : KTold tail true L st) : KTold (startK uT ++ tail) false (uE :: L) st := by
  obtain ⟨B, h, hl⟩ := uT_written
  exact told_start (T := uT) h hl rfl ht
/-- A first message of the user u. -/
theorem startU_any (w : World) : Calls Tryd.prog 9 #[.slice (some ⟨w.heap.size, 0, none⟩) 2 2] (w.alloc (.cells #[.string { data := #[117, 115, 101, 114] }, .string { data := #[117] }] 9)) fun e w' => e = .returned (.string (startK uT)) ∧ Below w.heap.size w w' := by
  refine (startK_any _ 2 2 uT _ (texts_two w _ _) (by decide)).mono ?_
  rintro e w' ⟨rfl, hb⟩
  exact ⟨rfl, ((Below.refl _ _).alloc (Nat.le_refl _) _).step hb (by simp)⟩
set_option maxRecDepth 100000 in
set_option maxHeartbeats 8000000 in
theorem shown18 (w : World) : Calls Tryd.prog 7 #[] w fun e w' => e = .returned (.bool true) ∧ Below w.heap.size w w' := by
  have HQ := Lib.hid (fun W => (show Calls Tryd.prog 10 #[.string { data := #[97] }] W (fun e w' => e = .returned (.tuple #[.string (askS [97]), .int .i64 0]) ∧ Below W.heap.size W w') from by
    have := query_any W { data := #[97] } (by decide)
    rw [query_good (by decide) (by decide)] at this
    exact this))
  obtain ⟨sq, hsq⟩ : ∃ z, z = askS [97] := ⟨_, rfl⟩
  obtain ⟨su, hsu⟩ : ∃ z, z = startK uT := ⟨_, rfl⟩
  have HK := Lib.hid (show KTold (({ data := #[] } : ByteArray) ++ (su ++ sq)) false [uE, askE [97]] (some ({ data := #[] }, true)) from by
    rw [empty_append, hsu, hsq]
    refine told_u ?_
    rw [← append_empty (askS [97])]
    exact told_ask (by decide) (by decide) ktold_nil)
  have hz : su.size ≤ 10010 := by rw [hsu]; exact startK_size _
  have hz2 : sq.size ≤ 100 := by rw [hsq]; decide
  have HSU := Lib.hid (fun W => startU_any W)
  rw [← hsq] at HQ
  rw [← hsu] at HSU
  clear hsq hsu
  go_enter Tryd.func7, Tryd.ntmps7
  go_wp2_with fail
  refine (newF_any w).mono ?_; rintro e w1 ⟨p, q, rfl, hF, hb, hp, hq⟩
  have HF := Lib.hid hF; have HB := Lib.hid hb
  clear hF hb
  go_wp2_with fail
  refine (HQ.out w1).mono ?_; rintro e w2 ⟨rfl, hb⟩
  have HF2 := Lib.hid (HF.out.grown hb)
  have HB2 := Lib.hid (HB.out.step hb HB.out.size)
  clear hb
  go_wp2_with fail
  refine (HSU.out w2).mono ?_; rintro e w3 ⟨rfl, hb⟩
  have HF3 := Lib.hid (HF2.out.grown hb)
  have HB3 := Lib.hid (HB2.out.step hb HB2.out.size)
  clear hb
  go_wp2_with fail
  refine (feed_told HF3.out (by rw [ByteArray.size_append]; show 0 + _ ≤ _; omega) HK.out).mono ?_; rintro e w4 ⟨tv, v', rfl, hE, hS, hT, hv⟩
  have HB4 := Lib.hid (show Below w.heap.size w w4 from by have := hT.below (B := w.heap.size) HB3.out.size hp hq (by simp [Value.ownBlock]); exact HB3.out.trans this)
  obtain ⟨g, c, rfl, hc1, hc2, hc3, hcell⟩ := hE.read (by simp)
  have hA := hcell 0 _ rfl
  have hB := hcell 1 _ rfl
  have a0 : w4.cell? ⟨g, 0, none⟩ = some (.int .u8 115) := hA.1
  have a1 : w4.cell? ⟨g, 1, none⟩ = some (.string { data := #[117] }) := hA.2.1
  have a2 : w4.cell? ⟨g, 2, none⟩ = some (.string { data := #[117] }) := hA.2.2.1
  have b0 : w4.cell? ⟨g, 5, none⟩ = some (.int .u8 113) := hB.1
  have b3 : w4.cell? ⟨g, 8, none⟩ = some (.string { data := #[97] }) := hB.2.2.2
  have hsl : (Value.slice (some ⟨g, 0, none⟩) [uE, askE [97]].length c) = .slice (some ⟨g, 0, none⟩) 2 c := rfl
  rw [hsl]
  have hc1' : (2 : Int) ≤ c := by simp at hc1; omega
  have HS := Lib.hid (show FIs w4 p q v' { data := #[] } true from hS)
  have HOV := Lib.hid (over_no p q true w4 HS.out.cell)
  clear hE hT hv hcell hS hc1 hA hB hsl
  go_wp2_with fail
  refine HOV.out.mono ?_; rintro e w5 ⟨rfl, rfl⟩
  go_wp2_with fail
  go_ret
  exact ⟨rfl, HB4.out⟩
end Go.Proofs.YtmofnkinclckoaaDoor

namespace Go.Proofs.YtmofnkinclckoaaDoor
open Go.RowKit Go.Lib Go.WideShapes Go.ChangeShapes Go.ChangeAt Go.Joins

/-- The listed data, and the world's shape, both at hand. -/
theorem handed_laid {H : Type} {enc : TypeId × Value → H} {C : Checked} {os : Os} {f : FuncId} {fn : Func} {s : ChangeSpec} {conds : List PathCond} {apart fresh handsOn again : Bool} {X : World → Array Value → Prop}
    (hX : ∀ (w w' : World) (args : Array Value), w.heap = w'.heap → X w args → X w' args) (own : ownKnob C.prog.godebug = none) (started : os.Started) (noInit : C.prog.inits.idxOf? f = none) (hfn : C.prog.funcs[f]? = some fn)
    (witness : ∃ (w : World) (tape : Tape) (i : Input), w.os = os ∧ (w.forCall tape i).Shaped C.prog ∧ i.vars = [] ∧ Input.okWide C.prog (w.forCall tape i) .any w.heap.size f i ∧
      ((s.pre enc C.prog fn conds apart (w.forCall tape i).memory i.args ∧ X (w.forCall tape i).memory i.args) ∧ sizedMet enc C.prog fn (OpenSpec.ofChange s) apart (w.forCall tape i).memory i.args) ∧ ({} : Assume).holds C.prog (lone (Frame.enter C.prog f i.args .normal) [] (w.forCall tape i)))
    (contract : ∀ (W : World) (base : Nat) (args : Array Value) (ds gs : List (DataW H)) (before : List MemPlace),
      (∀ (j : Nat) t v, fn.params[j]? = some t → args[j]? = some v → Value.okWide C.prog W .any base t v) → DataW.Whole enc C.prog fn.params.toList s.vars apart W args.toList ds gs before →
      (DataW.weightsEach C.prog (fn.params.toList ++ s.plain.varTypes C.prog) (ds ++ gs)).all (· ≤ reachBytes) = true → W.ShapedOpen C.prog → X W args →
      Calls C.prog f args W fun e W' => ∃ v, e = .returned v ∧ s.post enc C.prog fn apart fresh handsOn again W args v W') :
    ReturnsInHanded {} C os f .any (fun w args => (s.pre enc C.prog fn conds apart w args ∧ X w args) ∧ sizedMet enc C.prog fn (OpenSpec.ofChange s) apart w args) (s.post enc C.prog fn apart fresh handsOn again) := by
  refine returnsInHanded_of_calls own started noInit witness fun w tape i _ hsh _ hok hpre _ => ?_
  obtain ⟨_, _, _, fn', hfn', _, _, _, _, hval⟩ := hok
  obtain rfl : fn' = fn := Option.some.inj (hfn'.symm.trans hfn)
  obtain ⟨⟨⟨ds, gs, before, hw, _⟩, hx⟩, hz⟩ := hpre
  refine (contract (w.forCall tape i) w.heap.size i.args ds gs before hval (DataW.Whole.of_heap (w' := w.forCall tape i) (by rfl) hw) (hz.weights hw) hsh (hX _ _ _ (by rfl) hx)).mono ?_
  rintro e W' ⟨v, rfl, hp⟩
  exact ChangeSpec.post_blind hp
end Go.Proofs.YtmofnkinclckoaaDoor

namespace Go.Proofs.YtmofnkinclckoaaDoor
open Go.RowKit Go.Lib Go.WideShapes Go.ChangeShapes Go.ChangeAt Go.Joins

/-- The integers that lie from place off of block b on. -/
def IntsAt (w : World) (b off n : Nat) (c : Nat → Int) : Prop := ∀ i, i < n → w.cell? ⟨b, off + i, none⟩ = some (.int .i64 (c i))

/-- An argument that is a slice of integers, opened to its cells. -/
theorem open_row {H : Type} {enc : TypeId × Value → H} {w : World} {a : Option Addr} {len cap : Nat} {d : DataW H} {p : List MemPlace} (h : DataW.Trod enc Tryd.prog w 0 (fun _ => true) true 22 (.slice a len cap) d p) :
    ∃ c : Nat → Int, (∀ i, i < len → -9223372036854775808 ≤ c i ∧ c i ≤ 9223372036854775807) ∧ (len = 0 ∨ ∃ b off, a = some ⟨b, off, none⟩ ∧ b < w.heap.size ∧ IntsAt w b off len c) := by
  obtain ⟨fuel, hf⟩ := h
  have hf' : DataW.trod enc Tryd.prog w 0 (fun _ => true) true fuel 22 [.slice a len cap] = some (d, p) := by simpa [Value.cells] using hf
  rcases open_ints Tryd.underlying22 Tryd.underlying3 (by kernel_rfl) hf' with ⟨h0, _⟩ | ⟨a', len', cap', zs, hcs, _, hl, _, hz, _, hcell, hw⟩
  · refine ⟨fun _ => 0, fun _ _ => by simp, .inl ?_⟩
    simp at h0; exact h0.2.1
  · simp only [List.cons.injEq, Value.slice.injEq, and_true] at hcs
    obtain ⟨rfl, rfl, rfl⟩ := hcs
    have hlz : len ≤ zs.length := by rw [hz]; simp; exact hl
    refine ⟨fun i => zs.getD i 0, fun i hi => int_range (hw _ ?_), ?_⟩
    · have e : zs.getD i 0 = zs[i]'(by omega) := by simp [List.getD, List.getElem?_eq_getElem (show i < zs.length by omega)]
      show zs.getD i 0 ∈ zs
      rw [e]; exact List.getElem_mem _
    · by_cases h0 : len = 0
      · exact .inl h0
      right
      obtain ⟨b, off, rfl, hc⟩ := ints_at hcell (by omega)
      exact ⟨b, off, rfl, World.block_lt_of_cell? w (⟨b, off + 0, none⟩ : Addr) (hc 0 (by omega)), fun i hi => hc i (by omega)⟩


/-- A front that is over is fed. -/
theorem feed_over (p : Nat) (b : Bool) (x : ByteArray) (w : World) (h : FCell w p (.pointer none) b) :
    Calls Tryd.prog 13 #[.pointer (some ⟨p, 0, none⟩), .string x] w fun e w' => e = .returned (.slice none 0 0) ∧ w = w' := by
  have HOV := Lib.hid (over_yes p b w h)
  clear h
  go_enter Tryd.func13, Tryd.ntmps13
  go_wp2_with fail
  refine HOV.out.mono ?_; rintro e w1 ⟨rfl, rfl⟩
  go_wp2_with fail
  go_loopw [5] (fun tv wr => tv = .slice none 0 0 ∧ wr = w) (fun _ _ => 0)
  case atStart => exact ⟨rfl, rfl⟩
  case round =>
    obtain ⟨rfl, rfl⟩ := hrel
    go_wp2_with fail
    refine HOV.out.mono ?_; rintro e w1 ⟨rfl, rfl⟩
    go_wp2_with fail
    go_ret
    exact ⟨rfl, rfl⟩
/-- A first message behind the first one is nothing. -/
theorem again_u : KTold (startK uT) true [wrongEv c_bytes] none := by
  obtain ⟨B, h, hl⟩ : ∃ B : Bs, written false 0 uT [196608, (uT.length : Int)] = some B ∧ B = [0, 3, 0, 0, 117, 115, 101, 114, 0, 117, 0, 0] := ⟨_, rfl, by decide⟩
  subst hl
  have e : startK uT = { data := #[0, 0, 0, 16, 0, 3, 0, 0, 117, 115, 101, 114, 0, 117, 0, 0] } := by
    unfold startK
    rw [h, bodyK_some (by decide)]
    rfl
  have h2 : frameE (startK uT) (!true) = 2 := by rw [e]; decide
  exact KTold.wrong (by rw [h2]; decide) (by rw [h2]; decide)
end Go.Proofs.YtmofnkinclckoaaDoor

namespace Go.Proofs.YtmofnkinclckoaaDoor
open Go.RowKit Go.Lib Go.WideShapes

/-- The cells of an event, but for its numbers. -/
def EvC (ys : List Value) (i : Nat) (E : Ev) : Prop := ys[i * 5]? = some (.int .u8 (E.k.toNat : Nat)) ∧ ys[i * 5 + 1]? = some (.string ⟨E.u.toArray⟩) ∧ ys[i * 5 + 2]? = some (.string ⟨E.d.toArray⟩) ∧ ys[i * 5 + 3]? = some (.string ⟨E.t.toArray⟩)
def KRow (w : World) (B : Nat) (v : Value) (L : List Ev) : Prop := ∃ xs, w.ownsRow B 36 5 v L.length xs ∧ (∀ i E, L[i]? = some E → EvC xs i E) ∧ ∀ u ∈ xs, u.oneCell' = true
theorem EvRow.k {w : World} {B : Nat} {v : Value} {L : List Ev} (h : EvRow w B v L) : KRow w B v L := by
  obtain ⟨xs, hO, hX⟩ := h
  refine ⟨xs, hO, fun i E hi => ?_, fun u hu => ?_⟩
  · obtain ⟨sl, c0, c1, c2, c3, _⟩ := hX i E hi
    exact ⟨c0, c1, c2, c3⟩
  · obtain ⟨k, hk, rfl⟩ := List.mem_iff_getElem.1 hu
    have hl := hO.1
    have hi : k / 5 < L.length := by omega
    obtain ⟨sl, c0, c1, c2, c3, c4, b, m, d, rfl, _⟩ := hX (k / 5) _ (List.getElem?_eq_getElem hi)
    have hx : ∀ r y, k = k / 5 * 5 + r → xs[k / 5 * 5 + r]? = some y → y.oneCell' = true → (xs[k]).oneCell' = true := fun r y hr h1 h2 => by
      have h3 : xs[k]? = some y := by rw [← h1, ← hr]
      rw [List.getElem?_eq_getElem hk] at h3
      rw [Option.some.inj h3]; exact h2
    rcases (by omega : k % 5 = 0 ∨ k % 5 = 1 ∨ k % 5 = 2 ∨ k % 5 = 3 ∨ k % 5 = 4) with e | e | e | e | e
    · exact hx 0 _ (by omega) c0 rfl
    · exact hx 1 _ (by omega) c1 rfl
    · exact hx 2 _ (by omega) c2 rfl
    · exact hx 3 _ (by omega) c3 rfl
    · exact hx 4 _ (by omega) c4 rfl
theorem KRow.nil (w : World) (B : Nat) : KRow w B (.slice none 0 0) [] := ⟨[], ⟨rfl, .inl ⟨rfl, rfl⟩⟩, fun i E h => (by cases h), fun u h => (by cases h)⟩
theorem KRow.form {w : World} {B : Nat} {v : Value} {L : List Ev} (h : KRow w B v L) : ∃ a c, v = .slice a L.length c := by
  obtain ⟨xs, hO, _⟩ := h
  exact ownsRow_form hO
theorem KRow.kept {w w' : World} {B : Nat} {v : Value} {L : List Ev} (h : KRow w B v L) (hw : ∀ k, v.ownBlock = some k → w'.heap[k]? = w.heap[k]?) : KRow w' B v L := by
  obtain ⟨xs, hO, hX, hc⟩ := h
  exact ⟨xs, ⟨hO.1, hO.2.imp id fun ⟨g, cap, cur, e1, e2, e3, e4⟩ => ⟨g, cap, cur, e1, e2, (hw g (by rw [e1]; rfl)).trans e3, e4⟩⟩, hX, hc⟩
theorem KRow.lt {w : World} {B : Nat} {v : Value} {L : List Ev} (h : KRow w B v L) : ∀ k, v.ownBlock = some k → B ≤ k ∧ k < w.heap.size := by
  obtain ⟨xs, hO, _⟩ := h
  exact hO.lt
theorem KRow.grown {w w' : World} {B : Nat} {v : Value} {L : List Ev} (h : KRow w B v L) (hb : Below w.heap.size w w') : KRow w' B v L := h.kept (fun k hk => hb.block k (h.lt k hk).2)
theorem KRow.apart {w : World} {B p : Nat} {v u : Value} {L : List Ev} {s : ByteArray} (h : KRow w B v L) (hu : OwnB w 5 p u s) : ∀ k, v.ownBlock = some k → some k ≠ u.ownBlock := by
  obtain ⟨xs, hO, _⟩ := h
  exact rows_apart hO hu (by decide)
theorem KRow.read {w : World} {B : Nat} {v : Value} {L : List Ev} (h : KRow w B v L) (h0 : L ≠ []) : ∃ g c, v = .slice (some ⟨g, 0, none⟩) L.length c ∧ L.length ≤ c ∧ B ≤ g ∧ g < w.heap.size ∧ ∀ i E, L[i]? = some E → w.cell? ⟨g, i * 5, none⟩ = some (.int .u8 (E.k.toNat : Nat)) ∧ w.cell? ⟨g, i * 5 + 1, none⟩ = some (.string ⟨E.u.toArray⟩) ∧ w.cell? ⟨g, i * 5 + 2, none⟩ = some (.string ⟨E.d.toArray⟩) ∧ w.cell? ⟨g, i * 5 + 3, none⟩ = some (.string ⟨E.t.toArray⟩) := by
  obtain ⟨xs, hO, hX, _⟩ := h
  rcases hO.2 with ⟨rfl, hz⟩ | ⟨g, cap, cur, rfl, hb, hg, hn, hrest⟩
  · exact absurd (List.eq_nil_of_length_eq_zero hz) h0
  · refine ⟨g, cap, rfl, hn, hb, (Array.getElem?_eq_some_iff.1 hg).1, fun i E hi => ?_⟩
    obtain ⟨c0, c1, c2, c3⟩ := hX i E hi
    have hc := hO.cells (g := g) rfl
    have a0 := hc _ _ c0
    have a1 := hc _ _ c1
    have a2 := hc _ _ c2
    have a3 := hc _ _ c3
    rw [Go.WideShapes.add_plain, Nat.zero_add] at a0 a1 a2 a3
    exact ⟨a0, a1, a2, a3⟩
/-- A row of events that another one is put behind. -/
theorem krow_append {w : World} {B C : Nat} {v tv : Value} {L M : List Ev} (h : KRow w B v L) (h2 : KRow w C tv M) (hn : L.length + M.length ≤ 1000000) (hB : B ≤ w.heap.size) :
    ∃ v' w', (Builtin.append_ #[32, 32] 32 #[v, tv]).run Tryd.prog w = .ok v' w' ∧ KRow w' B v' (L ++ M) ∧ w.grownBy w' v.ownBlock ∧ (∀ k, v'.ownBlock = some k → v.ownBlock = some k ∨ w.heap.size ≤ k) := by
  obtain ⟨iv, hiv, z0, z1, z2⟩ := info_parts info_event
  obtain ⟨xs, hO, hX, hc⟩ := h
  obtain ⟨ys, hP, hY, hd⟩ := h2
  have hEv : ∀ i E, (L ++ M)[i]? = some E → EvC (xs ++ ys) i E := by
    intro i E hi
    have hl := hO.1
    by_cases hlt : i < L.length
    · rw [List.getElem?_append_left hlt] at hi
      obtain ⟨c0, c1, c2, c3⟩ := hX i E hi
      exact ⟨by rw [List.getElem?_append_left (by omega)]; exact c0, by rw [List.getElem?_append_left (by omega)]; exact c1, by rw [List.getElem?_append_left (by omega)]; exact c2, by rw [List.getElem?_append_left (by omega)]; exact c3⟩
    · rw [List.getElem?_append_right (by omega)] at hi
      obtain ⟨c0, c1, c2, c3⟩ := hY _ E hi
      exact ⟨by rw [List.getElem?_append_right (by omega), show i * 5 - xs.length = (i - L.length) * 5 by omega]; exact c0, by rw [List.getElem?_append_right (by omega), show i * 5 + 1 - xs.length = (i - L.length) * 5 + 1 by omega]; exact c1, by rw [List.getElem?_append_right (by omega), show i * 5 + 2 - xs.length = (i - L.length) * 5 + 2 by omega]; exact c2, by rw [List.getElem?_append_right (by omega), show i * 5 + 3 - xs.length = (i - L.length) * 5 + 3 by omega]; exact c3⟩
  have hco : ∀ u ∈ xs ++ ys, u.oneCell' = true := fun u hu => (List.mem_append.1 hu).elim (hc u) (hd u)
  have hcells : ∀ g, tv.ownBlock = some g → ∀ j u, ys[j]? = some u → w.cell? ⟨g, j, none⟩ = some u := fun g hg j u hj => by
    rcases hP.2 with ⟨rfl, hz⟩ | ⟨g', cap, cur, rfl, hb, hg', hn', hrest⟩
    · cases hg
    · cases hg
      have := hP.cells (g := g') rfl j u hj
      rw [Go.WideShapes.add_plain, Nat.zero_add] at this
      exact this
  rcases hP.2 with ⟨rfl, hz⟩ | ⟨g, cap, cur, rfl, hb, hg, hn', hrest⟩
  · obtain rfl : M = [] := List.eq_nil_of_length_eq_zero hz
    obtain rfl : ys = [] := List.eq_nil_of_length_eq_zero (by rw [hP.1]; rfl)
    refine ⟨v, w, run_append_owned_none _ _ _ _ _ iv _ Tryd.underlying32 hiv _ _ _ hO, ⟨xs, by rw [List.append_nil]; exact hO, by simpa only [List.append_nil] using hEv, hc⟩, World.grownBy.refl _ _, fun k hk => .inl hk⟩
  · obtain ⟨v', w', hrun, h3, h4, h5⟩ := run_append_at (P := Tryd.prog) w B 32 32 36 iv (.agg #[.int .u8 0, .string { data := #[] }, .string { data := #[] }, .string { data := #[] }, .slice none 0 0]) 5 80 Tryd.underlying32 hiv z0 z1 z2 rfl (by decide) v L.length xs hO ⟨g, 0, none⟩ M.length cap ys hP.1 (fun j u hj => by
      rw [Go.WideShapes.add_plain, Nat.zero_add]
      exact hcells g rfl j u hj) hd (by unfold maxLen; omega) (by omega) hB
    exact ⟨v', w', hrun, ⟨xs ++ ys, by rw [List.length_append]; exact h3, hEv, hco⟩, h4, h5⟩
end Go.Proofs.YtmofnkinclckoaaDoor

namespace Go.Proofs.YtmofnkinclckoaaDoor
open Go.RowKit Go.Lib Go.WideShapes

theorem KTold.over_app {s : ByteArray} {b : Bool} {L : List Ev} {st : Option (ByteArray × Bool)} (h : KTold s b L st) (x : ByteArray) : st = none → KTold (s ++ x) b L none := by
  induction h with
  | more h => intro e; cases e
  | @wrong s b h h0 =>
    intro _
    exact KTold.wrong (by rw [frameE_app s x (!b) h]; exact h) (by rw [frameE_app s x (!b) h]; exact h0)
  | @last s b h hf =>
    intro _
    have e1 := frameEv_app x h
    have e3 := (frameE_app s x (!b) (by rw [h]; decide)).trans h
    rw [← e1] at hf
    have := KTold.last e3 hf
    rw [e1] at this
    exact this
  | @next s b L st h hf hr ih =>
    intro e
    have h3 := ih e
    have e1 := frameEv_app x h
    have e2 := frameR_app x h
    have e3 := (frameE_app s x (!b) (by rw [h]; decide)).trans h
    rw [← e2] at h3
    rw [← e1] at hf
    have := KTold.next e3 hf h3
    rw [e1] at this
    exact this
theorem KTold.size {s : ByteArray} {b : Bool} {L : List Ev} {st : Option (ByteArray × Bool)} (h : KTold s b L st) : L.length ≤ s.size + 1 ∧ ∀ s' b', st = some (s', b') → L.length + s'.size ≤ s.size := by
  induction h with
  | more h => exact ⟨by simp, fun s' b' e => by cases e; simp⟩
  | wrong h h0 => exact ⟨by simp, fun s' b' e => by cases e⟩
  | last h hf => exact ⟨by simp, fun s' b' e => by cases e⟩
  | @next s b L st h hf hr ih =>
    have := frameR_lt h
    refine ⟨by rw [List.length_cons]; have := ih.1; omega, fun s' b' e => ?_⟩
    have := ih.2 s' b' e
    rw [List.length_cons]
    omega
/-- What feeding changes. -/
structure TurnedS (w w' : World) (p q : Nat) (st : Option (ByteArray × Bool)) (row : Option Nat) : Prop where
  os : w'.os = w.os
  tape : w'.tape = w.tape
  output : w'.output = w.output
  size : w.heap.size ≤ w'.heap.size
  block : ∀ k, k < w.heap.size → k ≠ p → k ≠ q → (st ≠ none → some k ≠ row) → w'.heap[k]? = w.heap[k]?
theorem TurnedS.below {w w' : World} {p q : Nat} {st : Option (ByteArray × Bool)} {row : Option Nat} {B : Nat} (h : TurnedS w w' p q st row) (hB : B ≤ w.heap.size) (hp : B ≤ p) (hq : B ≤ q) (hr : ∀ k, row = some k → B ≤ k) : Below B w w' :=
  ⟨h.os, h.tape, h.output, h.size, fun k hk => h.block k (by omega) (by omega) (by omega) (fun _ e => by have := hr k e.symm; omega)⟩
theorem FSt.apart {w : World} {p q B : Nat} {v u : Value} {st : Option (ByteArray × Bool)} {L : List Ev} (h : FSt w p q v st) (hu : KRow w B u L) : ∀ k, u.ownBlock = some k → st ≠ none → some k ≠ v.ownBlock := by
  intro k hk hs
  cases st with
  | none => exact absurd rfl hs
  | some r =>
    obtain ⟨s, b⟩ := r
    exact hu.apart (show FIs w p q v s b from h).rd.own k hk
theorem KRow.turned {w w' : World} {p q B : Nat} {v u : Value} {st : Option (ByteArray × Bool)} {L : List Ev} (hu : KRow w B u L) (h : FSt w p q v st) (ht : TurnedS w w' p q st v.ownBlock) (hp : p < B) (hq : q < B) : KRow w' B u L :=
  hu.kept (fun k hk => ht.block k (hu.lt k hk).2 (by have := (hu.lt k hk).1; omega) (by have := (hu.lt k hk).1; omega) (h.apart hu k hk))
/-- A front lies apart from what grows. -/
theorem FSt.grownBy {w w' : World} {p q B : Nat} {v u : Value} {st : Option (ByteArray × Bool)} {L : List Ev} (h : FSt w p q v st) (hu : KRow w B u L) (hg : w.grownBy w' u.ownBlock) (hp : p < B) (hq : q < B) : FSt w' p q v st := by
  have hne : ∀ k, k < B → some k ≠ u.ownBlock := fun k hk e => by have := (hu.lt k e.symm).1; omega
  cases st with
  | none =>
    obtain ⟨b, hc⟩ := h
    exact ⟨b, hc.same (hg.block p hc.lt (hne p hp))⟩
  | some r =>
    obtain ⟨s, b⟩ := r
    have h : FIs w p q v s b := h
    have hv := hu.apart h.rd.own
    exact (show FIs w' p q v s b from ⟨h.cell.same (hg.block p h.cell.lt (hne p hp)), ⟨(hg.block q h.rd.lt (hne q hq)).trans h.rd.heap, h.rd.own.kept (fun k hk => hg.block k (h.rd.own.lt k hk) (fun e => hv k e.symm hk.symm))⟩, h.ne, h.row⟩)
theorem FSt.grown {w w' : World} {p q : Nat} {v : Value} {st : Option (ByteArray × Bool)} (h : FSt w p q v st) (hb : Below w.heap.size w w') : FSt w' p q v st := by
  cases st with
  | none => obtain ⟨b, hc⟩ := h; exact ⟨b, hc.same (hb.block p hc.lt)⟩
  | some r => obtain ⟨s, b⟩ := r; exact (show FIs w' p q v s b from FIs.grown (show FIs w p q v s b from h) hb)
theorem feed_st (p q : Nat) (v : Value) (x S : ByteArray) (b : Bool) (L : List Ev) (st : Option (ByteArray × Bool)) (w : World) (h : FSt w p q v st) (hk : KTold S b L st) (hx : S.size + x.size ≤ 1000000000) :
    Calls Tryd.prog 13 #[.pointer (some ⟨p, 0, none⟩), .string x] w fun e w' => ∃ tv L2 st2 v', e = .returned tv ∧ KRow w' w.heap.size tv L2 ∧ FSt w' p q v' st2 ∧ TurnedS w w' p q st v.ownBlock ∧ (∀ k, v'.ownBlock = some k → v.ownBlock = some k ∨ w.heap.size ≤ k) ∧ KTold (S ++ x) b (L ++ L2) st2 := by
  cases st with
  | none =>
    obtain ⟨b', hc⟩ := h
    refine (feed_over p b' x w hc).mono ?_
    rintro e w' ⟨rfl, rfl⟩
    exact ⟨_, [], none, v, rfl, KRow.nil _ _, ⟨b', hc⟩, ⟨rfl, rfl, rfl, Nat.le_refl _, fun k _ _ _ _ => rfl⟩, fun k hk => .inl hk, by rw [List.append_nil]; exact hk.over_app x rfl⟩
  | some r =>
    obtain ⟨s, b1⟩ := r
    have hs := hk.size.2 s b1 rfl
    refine (feedF_any p q v s x b1 w h (by omega)).mono ?_
    rintro e w' ⟨tv, L2, st2, v', rfl, h1, h2, h3, h4, h5⟩
    exact ⟨tv, L2, st2, v', rfl, h2.k, h3, ⟨h4.os, h4.tape, h4.output, h4.size, fun k hk hp hq hr => h4.block k hk hp hq (hr (by simp))⟩, h5, hk.fed rfl h1⟩
/-- Is a front over? -/
def overS (st : Option (ByteArray × Bool)) : Bool := st.isNone
theorem over_st (p q : Nat) (v : Value) (st : Option (ByteArray × Bool)) (w : World) (h : FSt w p q v st) :
    Calls Tryd.prog 14 #[.pointer (some ⟨p, 0, none⟩)] w fun e w' => e = .returned (.bool (overS st)) ∧ w = w' := by
  cases st with
  | none => obtain ⟨b, hc⟩ := h; exact over_yes p b w hc
  | some r => obtain ⟨s, b⟩ := r; exact over_no p q b w (show FIs w p q v s b from h).cell
theorem fin_parts {E : Ev} {ke : Int} (h : ke = (E.k.toNat : Nat)) : fin E = ((ke == 120) || (ke == 99) || (ke == 101)) := by
  unfold fin
  have h : ∀ c : UInt8, (E.k == c) = (ke == (c.toNat : Nat)) := fun c => by
    by_cases e : E.k = c
    · rw [h, e]; simp
    · rw [show (E.k == c) = false from by simpa using e]
      symm
      exact beq_false_of_ne (fun e9 => e (UInt8.toNat_inj.1 (by omega)))
  rw [h, h, h]; rfl
end Go.Proofs.YtmofnkinclckoaaDoor

namespace Go.Proofs.YtmofnkinclckoaaDoor
open Go.RowKit Go.Lib Go.WideShapes

theorem run_eq_walk {P : Program} {w : World} {ops : Array Oper} {rest : List Oper} {o : Oper} {a : Act} {Q : Exit → Act → World → Prop} (hgd : o.guard = none) (s x : Operand) (t : TypeId)
    (ho : o.op = .call { callee := .builtin .append, args := #[s, x], argTypes := #[t, t] }) (vs vx : Value) (hs : a.eval s = vs) (hx : a.eval x = vx) (v' : Value) (w' : World)
    (hrun : (Builtin.append_ #[t, t] o.type #[vs, vx]).run P w = .ok v' w') (h : wpList P ops Q rest (a.put o.dst v') w') : wpList P ops Q (o :: rest) a w :=
  wpList_plain hgd fun _ hK => by
    unfold Oper.wp execOp
    simp only [ho, resolve, invoke, builtin, Sem.run_bind, Sem.run_pure, Result.andThen_ok, List.map_toArray, List.map_cons, List.map_nil, hs, hx, hrun]
    exact hK _ _ h
end Go.Proofs.YtmofnkinclckoaaDoor

namespace Go.Proofs.YtmofnkinclckoaaDoor
open Go.RowKit Go.Lib Go.WideShapes

theorem infoK_string : (Tryd.prog.info? 9).map (fun i => (i.zero, i.size, i.bytes)) = some (some (.string { data := #[] }), 1, 16) := by kernel_rfl
def TRow (w : World) (B : Nat) (v : Value) (T : List Bs) : Prop := w.ownsRow B 9 1 v T.length (tcells T)
theorem TRow.nil (w : World) (B : Nat) : TRow w B (.slice none 0 0) [] := ⟨rfl, .inl ⟨rfl, rfl⟩⟩
theorem TRow.form {w : World} {B : Nat} {v : Value} {T : List Bs} (h : TRow w B v T) : ∃ a c, v = .slice a T.length c := ownsRow_form h
theorem TRow.texts {w : World} {B : Nat} {v : Value} {T : List Bs} (h : TRow w B v T) : TextsIn w v T := own_textsIn h
theorem TRow.kept {w w' : World} {B : Nat} {v : Value} {T : List Bs} (h : TRow w B v T) (hw : ∀ k, v.ownBlock = some k → w'.heap[k]? = w.heap[k]?) : TRow w' B v T :=
  ⟨h.1, h.2.imp id fun ⟨g, cap, cur, e1, e2, e3, e4⟩ => ⟨g, cap, cur, e1, e2, (hw g (by rw [e1]; rfl)).trans e3, e4⟩⟩
theorem TRow.grown {w w' : World} {B : Nat} {v : Value} {T : List Bs} (h : TRow w B v T) (hb : Below w.heap.size w w') : TRow w' B v T := h.kept (fun k hk => hb.block k (h.lt k hk).2)
theorem TRow.apart {w : World} {B C : Nat} {v u : Value} {T : List Bs} {L : List Ev} (h : TRow w B v T) (hu : KRow w C u L) : ∀ k, u.ownBlock = some k → some k ≠ v.ownBlock := by
  intro k hk hkv
  obtain ⟨xs, hO, _⟩ := hu
  rcases hO.2 with ⟨rfl, _⟩ | ⟨g, cap, cur, rfl, hb, hgg, _⟩
  · simp [Value.ownBlock] at hk
  · simp [Value.ownBlock] at hk
    subst hk
    rcases h.2 with ⟨rfl, _⟩ | ⟨g', cap', cur', rfl, _, h1, _⟩
    · simp [Value.ownBlock] at hkv
    · simp [Value.ownBlock] at hkv
      subst hkv
      rw [hgg] at h1
      simp at h1
theorem tcells_snoc (T : List Bs) (t : Bs) : tcells (T ++ [t]) = tcells T ++ [.string ⟨t.toArray⟩] := by simp [tcells]
theorem tcells_one (T : List Bs) : ∀ u ∈ tcells T, u.oneCell' = true := by
  intro u hu
  obtain ⟨t, _, rfl⟩ := List.mem_map.1 hu
  rfl
/-- One text is put behind. -/
theorem trow_put {w : World} {B : Nat} {v : Value} {T : List Bs} (y : ByteArray) (h : TRow w B v T) (hn : T.length ≤ 1000000) (hB : B ≤ w.heap.size) :
    ∃ v' w', (Builtin.append_ #[27, 27] 27 #[v, .slice (some ⟨w.heap.size, 0, none⟩) 1 1]).run Tryd.prog (w.alloc (.cells #[.string y] 9)) = .ok v' w' ∧ TRow w' B v' (T ++ [bytes y]) ∧ w.heap.size ≤ w'.heap.size ∧ w'.os = w.os ∧ w'.tape = w.tape ∧ w'.output = w.output ∧ ∀ k, k < w.heap.size → some k ≠ v.ownBlock → w'.heap[k]? = w.heap[k]? := by
  obtain ⟨i0, hi, y0, y1, y2⟩ := info_parts infoK_string
  have hb : Below w.heap.size w (w.alloc (.cells #[.string y] 9)) := (Below.refl _ _).alloc (Nat.le_refl _) _
  obtain ⟨v', w', hrun, h3, h4, h5⟩ := run_append_at (P := Tryd.prog) (w.alloc (.cells #[.string y] 9)) B 27 27 9 i0 (.string { data := #[] }) 1 16 Tryd.underlying27 hi y0 y1 y2 rfl (by decide) v T.length (tcells T) (h.grown hb) ⟨w.heap.size, 0, none⟩ 1 1 [.string y] rfl (fun j u hj => by
      match j, hj with
      | 0, hj => simp at hj; subst hj; simp [Addr.add, go_sem]
      | n + 1, hj => simp at hj) (by simp [Value.oneCell']) (by unfold maxLen; omega) (by omega) (by rw [World.size_alloc]; omega)
  refine ⟨v', w', hrun, ?_, Nat.le_trans hb.size h4.size, h4.os, h4.tape, h4.output, fun k hk hne => (h4.block k (Nat.lt_of_lt_of_le hk hb.size) hne).trans (hb.block k hk)⟩
  show w'.ownsRow B 9 1 v' (T ++ [bytes y]).length (tcells (T ++ [bytes y]))
  rw [tcells_snoc, List.length_append, show (⟨(bytes y).toArray⟩ : ByteArray) = y from by simp [bytes]]
  exact h3
/-- append([]string{}, texts...) -/
theorem trow_copy {w : World} {B : Nat} {v : Value} {T : List Bs} (h : TRow w B v T) (hk : T.length ≤ 1000000) :
    ∃ v' w', (Builtin.append_ #[27, 27] 27 #[.slice (some ⟨w.heap.size, 0, none⟩) 0 0, v]).run Tryd.prog (w.alloc (.cells #[] 9)) = .ok v' w' ∧ TRow w' w.heap.size v' T ∧ Below w.heap.size w w' := by
  obtain ⟨i0, hi, y0, y1, y2⟩ := info_parts infoK_string
  have h0 : (w.alloc (.cells #[] 9)).ownsRow w.heap.size 9 1 (.slice (some ⟨w.heap.size, 0, none⟩) 0 0) 0 [] := World.ownsRow_lit w #[] 0 (Nat.le_refl _) (by decide) rfl
  have hb : Below w.heap.size w (w.alloc (.cells #[] 9)) := (Below.refl _ w).alloc (Nat.le_refl _) _
  rcases h.2 with ⟨rfl, hz⟩ | ⟨g, cap, cur, rfl, hbg, hg, hrest⟩
  · obtain rfl : T = [] := List.length_eq_zero_iff.1 hz
    exact ⟨_, _, run_append_owned_none _ _ _ _ _ i0 _ Tryd.underlying27 hi _ _ _ h0, h0, hb⟩
  · have hgl : g < w.heap.size := (Array.getElem?_eq_some_iff.1 hg).1
    obtain ⟨v', w', hrun, h2, h3, _⟩ := run_append_at (P := Tryd.prog) (w.alloc (.cells #[] 9)) w.heap.size 27 27 9 i0 (.string { data := #[] }) 1 16 Tryd.underlying27 hi y0 y1 y2 rfl (by decide) _ 0 [] h0 ⟨g, 0, none⟩ T.length cap (tcells T) (by rw [tcells_length]; omega) (fun j u hu => (hb.cell (p := ((⟨g, 0, none⟩ : Addr).add j)) (by rw [Go.WideShapes.add_plain]; exact hgl)).trans (h.cells (g := g) rfl j u hu)) (tcells_one T) (by unfold maxLen; omega) (by omega) (by rw [World.size_alloc]; omega)
    refine ⟨v', w', hrun, (by simpa [TRow] using h2), below_grown hb (by simp) h3 (fun q hq => ?_)⟩
    obtain rfl : w.heap.size = q := by simpa [Value.ownBlock] using hq
    exact Nat.le_refl _
end Go.Proofs.YtmofnkinclckoaaDoor

namespace Go.Proofs.YtmofnkinclckoaaDoor
open Go.RowKit Go.Lib

def flatK (T : List Bs) : Bs := T.flatMap fun t => t ++ [0]
theorem rep_pairs : ∀ (T : List Bs) (N : List Int) (B : Bs), (∀ t ∈ T, t ≠ [] ∧ (0 : UInt8) ∉ t) → rep T.length wPair ⟨T, N, B⟩ = some ⟨[], N, B ++ flatK T⟩
  | [], N, B, _ => by simp [rep, flatK]
  | t :: r, N, B, h => by
    have ht := h t List.mem_cons_self
    have hp : wPair ⟨t :: r, N, B⟩ = some ⟨r, N, B ++ (t ++ [0])⟩ := by
      show (if t = [] then none else wText ⟨t :: r, N, B⟩) = _
      rw [if_neg ht.1]
      show (if (0 : UInt8) ∈ t then none else some (⟨r, N, B ++ (t ++ [0])⟩ : WS)) = _
      rw [if_neg ht.2]
    show (wPair ⟨t :: r, N, B⟩).bind (rep r.length wPair) = _
    rw [hp]
    show rep r.length wPair ⟨r, N, B ++ (t ++ [0])⟩ = _
    rw [rep_pairs r N _ (fun x hx => h x (List.mem_cons_of_mem _ hx))]
    simp [flatK]
theorem written_texts {T : List Bs} (h : ∀ t ∈ T, t ≠ [] ∧ (0 : UInt8) ∉ t) (he : T.length % 2 = 0) : written false 0 T [196608, (T.length : Int)] = some ((be 4 196608 ++ flatK T) ++ [0]) := by
  have hl : layW false 0 [196608, (T.length : Int)] = some [105, 112] := by
    unfold layW
    rw [if_neg (by rintro ⟨_, _, h⟩; simp at h)]; rfl
  unfold written
  rw [hl]
  have h1 : wLong ⟨T, [196608, (T.length : Int)], []⟩ = some ⟨T, [(T.length : Int)], be 4 196608⟩ := rfl
  have h2 : wPairs ⟨T, [(T.length : Int)], be 4 196608⟩ = some ⟨[], [], (be 4 196608 ++ flatK T) ++ [0]⟩ := by
    have h3 : wNum 0 T.length ⟨T, [(T.length : Int)], be 4 196608⟩ = some ((T.length : Int), ⟨T, [], be 4 196608⟩) := by
      show (if (0 : Int) ≤ T.length ∧ (T.length : Int) ≤ T.length then _ else none) = _
      rw [if_pos ⟨by omega, Int.le_refl _⟩]
    unfold wPairs
    rw [h3]
    show (if ((T.length : Int)) % 2 = 0 then (rep (T.length : Int).toNat wPair ⟨T, [], be 4 196608⟩).map wZero else none) = _
    rw [if_pos (by omega), Int.toNat_natCast, rep_pairs T [] _ h]
    rfl
  show (wAll [105, 112] ⟨T, [196608, (T.length : Int)], []⟩).bind wDone = _
  have h4 : wAll [105, 112] ⟨T, [196608, (T.length : Int)], []⟩ = some ⟨[], [], (be 4 196608 ++ flatK T) ++ [0]⟩ := by
    show (wLong ⟨T, [196608, (T.length : Int)], []⟩).bind (wAll [112]) = _
    rw [h1]
    show (wPairs ⟨T, [(T.length : Int)], be 4 196608⟩).bind (wAll []) = _
    rw [h2]; rfl
  rw [h4]; rfl
theorem flatK_length {T : List Bs} {m : Nat} (h : ∀ t ∈ T, t.length ≤ m) : (flatK T).length ≤ T.length * (m + 1) := by
  induction T with
  | nil => simp [flatK]
  | cons a r ih =>
    have h1 := h a List.mem_cons_self
    have h2 := ih (fun t ht => h t (List.mem_cons_of_mem _ ht))
    show (a ++ [0] ++ flatK r).length ≤ _
    simp only [List.length_append, List.length_cons, List.length_nil, Nat.add_mul]
    omega
theorem told_texts {T : List Bs} (h : ∀ t ∈ T, t ≠ [] ∧ (0 : UInt8) ∉ t) (he : T.length % 2 = 0) (hm : ∀ t ∈ T, t.length ≤ 200) (hl : T.length ≤ 49) (hf : fin (startE T) = false) : KTold (({ data := #[] } : ByteArray) ++ startK T) false [startE T] (some ({ data := #[] }, true)) := by
  rw [empty_append, ← append_empty (startK T)]
  have hz := flatK_length hm
  have h9 : T.length * 201 ≤ 49 * 201 := Nat.mul_le_mul_right _ hl
  exact told_start (written_texts h he) (by rw [List.length_append, List.length_append, be_length, List.length_singleton]; omega) hf ktold_nil
/-- The law's names and values. -/
def pairsK (T : List Bs) : List Bs := T.flatMap fun t => [120 :: t, t]
theorem pairsK_snoc (T : List Bs) (t : Bs) : pairsK (T ++ [t]) = pairsK T ++ [120 :: t] ++ [t] := by simp [pairsK]
theorem pairsK_length (T : List Bs) : (pairsK T).length = 2 * T.length := by
  induction T with
  | nil => rfl
  | cons a r ih =>
    show (pairsK r).length + 1 + 1 = _
    rw [ih, List.length_cons]; omega
theorem behind_pairs {x : Bs} (hx : x.head? ≠ some 120) : ∀ (T R : List Bs), behindB (pairsK T ++ R) x = behindB R x
  | [], R => rfl
  | t :: r, R => by
    show (if (120 :: t) = x then t else behindB (pairsK r ++ R) x) = _
    rw [if_neg (fun e => hx (by rw [← e]; rfl)), behind_pairs hx r R]
def k_other : Bs := [111, 116, 104, 101, 114]
theorem start_one {T : List Bs} {u : Bs} (hu : u ≠ []) : startE (pairsK T ++ [k_user] ++ [u]) = ⟨115, u, u, [], []⟩ := by
  have h1 : behindB (pairsK T ++ [k_user] ++ [u]) k_user = u := by
    rw [List.append_assoc, behind_pairs (by decide)]; rfl
  have h2 : behindB (pairsK T ++ [k_user] ++ [u]) k_database = [] := by
    rw [List.append_assoc, behind_pairs (by decide)]; rfl
  unfold startE
  rw [h1, h2, if_neg hu, if_pos rfl]
theorem start_two {T : List Bs} {u d : Bs} (hu : u ≠ []) (hd : d ≠ []) : startE (pairsK T ++ [k_user] ++ [u] ++ [k_database] ++ [d] ++ [k_user] ++ [k_other]) = ⟨115, u, d, [], []⟩ := by
  have e : ∀ R : List Bs, pairsK T ++ [k_user] ++ [u] ++ [k_database] ++ [d] ++ [k_user] ++ [k_other] = pairsK T ++ [k_user, u, k_database, d, k_user, k_other] := fun _ => by simp
  have h1 : behindB (pairsK T ++ [k_user] ++ [u] ++ [k_database] ++ [d] ++ [k_user] ++ [k_other]) k_user = u := by
    rw [e [], behind_pairs (by decide)]; rfl
  have h2 : behindB (pairsK T ++ [k_user] ++ [u] ++ [k_database] ++ [d] ++ [k_user] ++ [k_other]) k_database = d := by
    rw [e [], behind_pairs (by decide)]; rfl
  unfold startE
  rw [h1, h2, if_neg hu, if_neg hd]
end Go.Proofs.YtmofnkinclckoaaDoor

namespace Go.Proofs.YtmofnkinclckoaaDoor
open Go.RowKit Go.Lib Go.WideShapes

end Go.Proofs.YtmofnkinclckoaaDoor

namespace Go.Proofs.YtmofnkinclckoaaDoor
open Go.RowKit Go.Lib Go.WideShapes

end Go.Proofs.YtmofnkinclckoaaDoor

namespace Go.Proofs.YtmofnkinclckoaaDoor
open Go.RowKit Go.Lib Go.WideShapes Go.ChangeShapes Go.ChangeAt Go.Joins

theorem weightsAll_mem' {H : Type} {P : Program} {e : TypeId} : ∀ {l : List (DataW H)} {d : DataW H}, d ∈ l → ∀ n ∈ d.weights P e, n ∈ DataW.weightsAll P e l
  | d' :: r, d, hd, n, hn => by
    simp only [DataW.weightsAll, List.mem_append]
    rcases List.mem_cons.1 hd with rfl | h
    · exact .inl hn
    · exact .inr (weightsAll_mem' h n hn)

theorem open_textsIn {H : Type} {enc : TypeId × Value → H} {w : World} {fuel : Nat} {v : Value} {y : DataW H × List MemPlace} (hf : DataW.trod enc Tryd.prog w 0 (fun _ => true) true fuel 27 [v] = some y) :
    ∃ T, TextsIn w v T ∧ ∀ t ∈ T, t.length ∈ y.1.weights Tryd.prog 27 := by
  rcases open_strings Tryd.underlying27 Tryd.underlying9 (by kernel_rfl) hf with ⟨h0, _⟩ | ⟨a', len', cap', ss, hcs, _, hl, hmx, hz, hd, hcell, hw⟩
  · simp at h0
    subst h0
    exact ⟨[], ⟨none, 0, 0, rfl, rfl, Nat.le_refl _, by omega, .inl rfl⟩, fun t ht => by cases ht⟩
  · simp only [List.cons.injEq, and_true] at hcs
    subst hcs
    have hz' : ss.length = cap' := by rw [hz]; simp
    refine ⟨(ss.take len').map bytes, ⟨_, len', cap', rfl, by rw [List.length_map, List.length_take]; omega, hl, by unfold maxLen at hmx; omega, ?_⟩, ?_⟩
    · by_cases h0 : len' = 0
      · subst h0; exact .inl rfl
      right
      obtain ⟨b, off, spot⟩ := a'
      have hs0 := hcell 0 (by omega)
      have hspot : spot = none := by simpa [Addr.add] using World.cell?_spot hs0
      subst hspot
      refine ⟨b, off, rfl, World.block_lt_of_cell? w ((⟨b, off, none⟩ : Addr).add 0) hs0, fun i t ht => ?_⟩
      rw [List.getElem?_map] at ht
      by_cases hi : i < len'
      · rw [List.getElem?_take_of_lt hi, List.getElem?_eq_getElem (show i < ss.length by omega)] at ht
        obtain rfl := Option.some.inj ht
        have := hcell i (by omega)
        rw [Go.WideShapes.add_plain] at this
        rw [this]
        have e : ss.getD i ByteArray.empty = ss[i]'(by omega) := by simp [List.getD, List.getElem?_eq_getElem (show i < ss.length by omega)]
        rw [e]
      · rw [List.getElem?_eq_none (by rw [List.length_take]; omega)] at ht; cases ht
    · intro t ht
      obtain ⟨s, hs, rfl⟩ := List.mem_map.1 ht
      rw [hd, blen]
      simp only [DataW.weights, Tryd.underlying27, List.mem_cons, List.mem_append]
      refine .inr (.inl (weightsAll_mem' (d := .lit (.string s.data.toList)) (List.mem_map.2 ⟨s, hs, rfl⟩) _ ?_))
      rw [DataW.weights]
      simp

end Go.Proofs.YtmofnkinclckoaaDoor
