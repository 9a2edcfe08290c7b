/- A queue that a law made: what each call leaves of it; the chapter's example. -/
import Derived.Test.YtcklfdpmggoafaaExpire
import Derived.Test.YtcklfdpmggoafaaPick
namespace Go.Proofs.Ytcklfdpmggoafaa
open Go.RowKit Go.Lib Go.WideShapes Go.Maps

/-- A queue made behind w0: nothing that was there before has turned. -/
def QE (w0 wr : World) (p B : Nat) (most : Int) (L : Waits) (N : Nat) : Prop :=
  ∃ o, QIs wr p B o most L N ∧ Below w0.heap.size w0 wr ∧ ∀ j, Foot p B o j → w0.heap.size ≤ j

theorem QE.left {w0 w w' : World} {p B : Nat} {o : Value} {most : Int} {L' : Waits} {N' : Nat} {r : Value} {e : Ending} (hb : Below w0.heap.size w0 w) (hf : ∀ j, Foot p B o j → w0.heap.size ≤ j) (hl : Left p B o most L' N' r w e w') : e = .returned r ∧ QE w0 w' p B most L' N' := by
  obtain ⟨he, o', hQ, hK⟩ := hl
  obtain ⟨hb2, hf2⟩ := hK.below hb.size hf
  exact ⟨he, o', hQ, hb.trans hb2, hf2⟩

theorem QE.below {w0 wr : World} {p B : Nat} {most : Int} {L : Waits} {N : Nat} (h : QE w0 wr p B most L N) : Below w0.heap.size w0 wr := by
  obtain ⟨o, _, hb, _⟩ := h; exact hb

theorem QE.grown {w0 wr w' : World} {p B : Nat} {most : Int} {L : Waits} {N : Nat} (h : QE w0 wr p B most L N) (hb : Below wr.heap.size wr w') : QE w0 w' p B most L N := by
  obtain ⟨o, hQ, hB, hF⟩ := h
  exact ⟨o, hQ.below hb, hB.step hb hB.size, hF⟩

theorem QE.more {w0 wr : World} {p B : Nat} {most : Int} {L : Waits} {N N' : Nat} (h : QE w0 wr p B most L N) (hn : N ≤ N') : QE w0 wr p B most L N' := by
  obtain ⟨o, hQ, hB, hF⟩ := h
  exact ⟨o, hQ.more hn, hB, hF⟩

theorem QE.facts {w0 wr : World} {p B : Nat} {most : Int} {L : Waits} {N : Nat} (h : QE w0 wr p B most L N) : (L.map (·.1)).Nodup ∧ (L.length : Int) ≤ most ∧ most ≤ 1000 := by
  obtain ⟨o, hQ, _, _⟩ := h; exact ⟨hQ.nodup, hQ.most_le⟩

theorem qe_new (most : Int) (w : World) (h : 1 ≤ most ∧ most ≤ 1000) :
    Calls Try.prog 10 #[.int .i64 most] w fun e w' => e = .returned (.tuple #[.pointer (some ⟨w.heap.size + 1, 0, none⟩), .int .i64 0]) ∧ QE w w' (w.heap.size + 1) w.heap.size most [] 0 := by
  refine (new_ok most w h).mono ?_
  rintro e w' ⟨rfl, hQ, hb⟩
  refine ⟨rfl, _, hQ, hb, fun j hj => ?_⟩
  rcases hj with rfl | rfl | hj
  · omega
  · omega
  · cases hj

section
variable {w0 w : World} {p B : Nat} {most : Int} {L : Waits} {N : Nat} (h : QE w0 w p B most L N) (id now : Int) (hid : -9223372036854775808 ≤ id ∧ id ≤ 9223372036854775807)
include h

theorem qe_join_ok (hid : -9223372036854775808 ≤ id ∧ id ≤ 9223372036854775807) (hnow : 0 ≤ now ∧ now ≤ 1000000) (hl : look L id = none) (hf : (L.length : Int) < most) (hN : N ≤ 1000000) :
    Calls Try.prog 13 #[.pointer (some ⟨p, 0, none⟩), .int .i64 id, .int .i64 now] w fun e w' => e = .returned (.int .i64 0) ∧ QE w0 w' p B most (L ++ [(id, now)]) (N + 1) := by
  obtain ⟨o, hQ, hB, hF⟩ := h
  exact (join_ok p B o most L N id now w hQ hid hnow hl hf hN).mono fun e w' hh => QE.left hB hF hh

theorem qe_join_state (hid : -9223372036854775808 ≤ id ∧ id ≤ 9223372036854775807) (hl : (look L id).isSome = true) :
    Calls Try.prog 13 #[.pointer (some ⟨p, 0, none⟩), .int .i64 id, .int .i64 now] w fun e w' => e = .returned (.int .i64 6) ∧ QE w0 w' p B most L N := by
  obtain ⟨o, hQ, hB, hF⟩ := h
  exact (join_state p B o most L N id now w hQ hid hl).mono fun e w' hh => QE.left hB hF hh

theorem qe_join_full (hid : -9223372036854775808 ≤ id ∧ id ≤ 9223372036854775807) (hl : look L id = none) (hf : most ≤ L.length) :
    Calls Try.prog 13 #[.pointer (some ⟨p, 0, none⟩), .int .i64 id, .int .i64 now] w fun e w' => e = .returned (.int .i64 7) ∧ QE w0 w' p B most L N := by
  obtain ⟨o, hQ, hB, hF⟩ := h
  exact (join_full p B o most L N id now w hQ hid hl hf).mono fun e w' hh => QE.left hB hF hh

theorem qe_leave_no (hl : look L id = none) :
    Calls Try.prog 15 #[.pointer (some ⟨p, 0, none⟩), .int .i64 id] w fun e w' => e = .returned (.bool false) ∧ QE w0 w' p B most L N := by
  obtain ⟨o, hQ, hB, hF⟩ := h
  exact (leave_no p B o most L N id w hQ hl).mono fun e w' hh => QE.left hB hF hh

theorem qe_leave_yes (hid : -9223372036854775808 ≤ id ∧ id ≤ 9223372036854775807) (hl : (look L id).isSome = true) :
    Calls Try.prog 15 #[.pointer (some ⟨p, 0, none⟩), .int .i64 id] w fun e w' => e = .returned (.bool true) ∧ QE w0 w' p B most (L.filter fun q => !decide (q.1 = id)) N := by
  obtain ⟨o, hQ, hB, hF⟩ := h
  exact (leave_yes p B o most L N id w hQ hid hl).mono fun e w' hh => QE.left hB hF hh

theorem qe_list :
    Calls Try.prog 21 #[.pointer (some ⟨p, 0, none⟩)] w fun e w' => ∃ u, e = .returned u ∧ HoldsI w' u (L.map (·.1)) ∧ QE w0 w' p B most L N ∧ Below w.heap.size w w' := by
  have H := h
  obtain ⟨o, hQ, hB, hF⟩ := h
  refine (list_any p B o most L N w hQ).mono ?_
  rintro e w' ⟨u, rfl, hu, hb⟩
  exact ⟨u, rfl, hu, H.grown hb, hb⟩

theorem qe_first_none (hL : L = []) :
    Calls Try.prog 20 #[.pointer (some ⟨p, 0, none⟩)] w fun e w' => e = .returned (.tuple #[.int .i64 0, .bool false]) ∧ QE w0 w' p B most L N := by
  have H := h
  obtain ⟨o, hQ, hB, hF⟩ := h
  subst hL
  refine (first_none p B o most N w hQ).mono ?_
  rintro e w' ⟨rfl, rfl⟩
  exact ⟨rfl, H⟩

theorem qe_first_some {q : Int × Int} {T : Waits} (hL : L = q :: T) :
    Calls Try.prog 20 #[.pointer (some ⟨p, 0, none⟩)] w fun e w' => e = .returned (.tuple #[.int .i64 q.1, .bool true]) ∧ QE w0 w' p B most L N := by
  have H := h
  obtain ⟨o, hQ, hB, hF⟩ := h
  subst hL
  refine (first_some p B o most q T N w hQ).mono ?_
  rintro e w' ⟨rfl, rfl⟩
  exact ⟨rfl, H⟩

theorem qe_expire_off (wait : Int) (hw : wait < 1) :
    Calls Try.prog 18 #[.pointer (some ⟨p, 0, none⟩), .int .i64 now, .int .i64 wait] w fun e w' => e = .returned (.slice none 0 0) ∧ QE w0 w' p B most L N := by
  obtain ⟨o, hQ, hB, hF⟩ := h
  exact (expire_off p B o most L N now wait w hQ hw).mono fun e w' hh => QE.left hB hF hh

theorem qe_expire_on (wait : Int) (hnow : 0 ≤ now ∧ now ≤ 1000000) (hw : 1 ≤ wait ∧ wait ≤ 9223372036854775807) :
    Calls Try.prog 18 #[.pointer (some ⟨p, 0, none⟩), .int .i64 now, .int .i64 wait] w fun e w' => ∃ u, e = .returned u ∧ HoldsI w' u ((L.filter (late now wait)).map (·.1)) ∧ QE w0 w' p B most (L.filter fun q => !late now wait q) N := by
  obtain ⟨o, hQ, hB, hF⟩ := h
  refine (expire_on p B o most L N now wait w hQ hnow hw).mono ?_
  rintro e w' ⟨u, o', rfl, hu, _, hQ', hK⟩
  obtain ⟨hb2, hf2⟩ := hK.below hB.size hF
  exact ⟨u, rfl, hu, o', hQ', hB.trans hb2, hf2⟩
end

theorem shown_true (w : World) :
    Calls Try.prog 9 #[] w fun e w' => e = .returned (.bool true) ∧ Below w.heap.size w w' := by
  go_enter Try.func9, Try.ntmps9
  go_wp2_with fail
  refine (qe_new 5 w (by omega)).mono ?_; rintro e w1 ⟨rfl, h1⟩
  have H1 := Lib.hid h1
  clear h1
  go_wp2_with fail
  refine (qe_join_ok H1.out 5 0 (by omega) (by omega) rfl (by simp) (by omega)).mono ?_; rintro e w2 ⟨rfl, h2⟩
  have H2 := Lib.hid h2
  clear h2 H1
  go_wp2_with fail
  refine (qe_join_ok H2.out 3 0 (by omega) (by omega) (by decide) (by simp) (by omega)).mono ?_; rintro e w3 ⟨rfl, h3⟩
  have H3 := Lib.hid h3
  clear h3 H2
  go_wp2_with fail
  refine (qe_leave_yes H3.out 5 (by omega) (by decide)).mono ?_; rintro e w4 ⟨rfl, h4⟩
  have H4 := Lib.hid h4
  clear h4 H3
  go_wp2_with fail
  refine (qe_first_some H4.out (q := (3, 0)) (T := []) (by decide)).mono ?_; rintro e w5 ⟨rfl, h5⟩
  have H5 := Lib.hid h5.below
  clear h5 H4
  go_wp2_with fail
  go_ret
  exact ⟨rfl, H5.out⟩
end Go.Proofs.Ytcklfdpmggoafaa
