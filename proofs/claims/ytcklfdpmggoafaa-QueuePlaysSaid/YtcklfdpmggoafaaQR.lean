/- A queue and the document's own, side by side. -/
import Derived.Test.YtcklfdpmggoafaaRefExpire
import Derived.Test.YtcklfdpmggoafaaQE
namespace Go.Proofs.Ytcklfdpmggoafaa
open Go.RowKit Go.Lib Go.WideShapes Go.Maps

/-- A queue of L and the document's own one of L2, both made behind w0, apart from each other. -/
def QR (w0 w : World) (p B pk : Nat) (most : Int) (L L2 : Waits) (N : Nat) : Prop :=
  ∃ o o2, QIs w p B o most L N ∧ RIs w pk o2 most L2 ∧ Below w0.heap.size w0 w ∧ (∀ j, Foot p B o j → w0.heap.size ≤ j) ∧ (∀ j, RFoot pk o2 j → w0.heap.size ≤ j) ∧ ∀ j, Foot p B o j → ¬ RFoot pk o2 j

/-- .. and a row of integers that is apart from the second one. -/
def QRU (w0 w : World) (p B pk : Nat) (most : Int) (L L2 : Waits) (N : Nat) (u : Value) (l : List Int) : Prop :=
  ∃ o o2, QIs w p B o most L N ∧ RIs w pk o2 most L2 ∧ Below w0.heap.size w0 w ∧ (∀ j, Foot p B o j → w0.heap.size ≤ j) ∧ (∀ j, RFoot pk o2 j → w0.heap.size ≤ j) ∧ (∀ j, Foot p B o j → ¬ RFoot pk o2 j) ∧ HoldsI w u l ∧ ∀ j, u.ownBlock = some j → ¬ RFoot pk o2 j

theorem QIs.foot_lt {w : World} {p B : Nat} {o : Value} {most : Int} {L : Waits} {N : Nat} (h : QIs w p B o most L N) : ∀ j, Foot p B o j → j < w.heap.size := by
  obtain ⟨h1, h2, h3, _⟩ := h.lt
  rintro j (rfl | rfl | hj)
  · exact h1
  · exact h2
  · exact h3 j hj

theorem RIs.foot_lt {w : World} {p : Nat} {o : Value} {most : Int} {L : Waits} (h : RIs w p o most L) : ∀ j, RFoot p o j → j < w.heap.size := by
  obtain ⟨h1, h3, _⟩ := h.lt
  rintro j (rfl | hj)
  · exact h1
  · exact h3 j hj

theorem HoldsI.block {w w' : World} {u : Value} {l : List Int} (h : HoldsI w u l) (hs : w.heap.size ≤ w'.heap.size) (hk : ∀ j, u.ownBlock = some j → j < w.heap.size → w'.heap[j]? = w.heap[j]?) : HoldsI w' u l := by
  obtain ⟨a, c, rfl, h1, h2, h3, h4⟩ := h
  refine ⟨a, c, rfl, h1, h2, h3, h4.imp id ?_⟩
  rintro ⟨b, off, rfl, hb, hc⟩
  exact ⟨b, off, rfl, by omega, fun i hi => (World.cell?_of_block (a := ⟨b, off + i, none⟩) (hk b rfl hb)).trans (hc i hi)⟩

section
variable {w0 w : World} {p B pk : Nat} {most : Int} {L L2 : Waits} {N : Nat}

theorem QR.qe (h : QR w0 w p B pk most L L2 N) : QE w0 w p B most L N := by
  obtain ⟨o, o2, h1, _, h3, h4, _⟩ := h; exact ⟨o, h1, h3, h4⟩

theorem QR.below (h : QR w0 w p B pk most L L2 N) : Below w0.heap.size w0 w := h.qe.below

theorem QR.grown {w' : World} (h : QR w0 w p B pk most L L2 N) (hb : Below w.heap.size w w') : QR w0 w' p B pk most L L2 N := by
  obtain ⟨o, o2, h1, h2, h3, h4, h5, h6⟩ := h
  exact ⟨o, o2, h1.below hb, h2.below hb, h3.step hb h3.size, h4, h5, h6⟩

theorem QR.more {N' : Nat} (h : QR w0 w p B pk most L L2 N) (hn : N ≤ N') : QR w0 w p B pk most L L2 N' := by
  obtain ⟨o, o2, h1, h⟩ := h
  exact ⟨o, o2, h1.more hn, h⟩

theorem QR.start {w1 : World} (h1 : QIs w p B (.slice none 0 0) most [] N) (h2 : RIs w1 w.heap.size (.slice none 0 0) most []) (hb0 : Below w0.heap.size w0 w) (hb : Below w.heap.size w w1) (hF : w0.heap.size ≤ p ∧ w0.heap.size ≤ B) : QR w0 w1 p B w.heap.size most [] [] N := by
  have hlt := h1.foot_lt
  refine ⟨_, _, h1.below hb, h2, hb0.step hb hb0.size, ?_, ?_, ?_⟩
  · rintro j (rfl | rfl | hj)
    · exact hF.1
    · exact hF.2
    · cases hj
  · rintro j (rfl | hj)
    · exact hb0.size
    · cases hj
  · rintro j hj (rfl | hf)
    · have := hlt _ hj; omega
    · cases hf

theorem qr_q {f : Nat} {args : Array Value} {L' : Waits} {N' : Nat} {r : Value} (h : QR w0 w p B pk most L L2 N) (hc : ∀ o, QIs w p B o most L N → Calls Try.prog f args w (Left p B o most L' N' r w)) :
    Calls Try.prog f args w fun e w' => e = .returned r ∧ QR w0 w' p B pk most L' L2 N' := by
  obtain ⟨o, o2, h1, h2, h3, h4, h5, h6⟩ := h
  have hlt := h2.foot_lt
  refine (hc o h1).mono ?_
  rintro e w' ⟨rfl, o', hQ, hK⟩
  obtain ⟨hb2, hf2⟩ := hK.below h3.size h4
  exact ⟨rfl, o', o2, hQ, h2.kept (fun j hj hf => hK.block j hj (fun hq => h6 j hq hf)), h3.trans hb2, hf2, h5, fun j hj hf => (hK.foot j hj).elim (fun hq => h6 j hq hf) (fun hs => by have := hlt j hf; omega)⟩

theorem qr_r {f : Nat} {args : Array Value} {L' : Waits} {r : Value} (h : QR w0 w p B pk most L L2 N) (hc : ∀ o, RIs w pk o most L2 → Calls Try.prog f args w (RLeft pk o most L' r w)) :
    Calls Try.prog f args w fun e w' => e = .returned r ∧ QR w0 w' p B pk most L L' N := by
  obtain ⟨o, o2, h1, h2, h3, h4, h5, h6⟩ := h
  have hlt := h1.foot_lt
  refine (hc o2 h2).mono ?_
  rintro e w' ⟨rfl, o', hQ, hK⟩
  obtain ⟨hb2, hf2⟩ := hK.below h3.size h5
  exact ⟨rfl, o, o', h1.kept (fun j hj hf => hK.block j hj (h6 j hf)), hQ, h3.trans hb2, h4, hf2, fun j hj hf => (hK.foot j hf).elim (h6 j hj) (fun hs => by have := hlt j hj; omega)⟩

theorem qr_expire (h : QR w0 w p B pk most L L2 N) (now wait : Int) (hnow : 0 ≤ now ∧ now ≤ 1000000) (hw : 0 ≤ wait ∧ wait ≤ 1000) :
    Calls Try.prog 18 #[.pointer (some ⟨p, 0, none⟩), .int .i64 now, .int .i64 wait] w fun e w' => ∃ u, e = .returned u ∧ QRU w0 w' p B pk most (L.filter fun q => !rlate now wait q) L2 N u ((L.filter (rlate now wait)).map (·.1)) := by
  by_cases h0 : wait < 1
  · have e0 : rlate now wait = fun _ => false := by funext q; simp [rlate]; omega
    refine (qr_q h (fun o ho => expire_off p B o most L N now wait w ho h0)).mono ?_
    rintro e w' ⟨rfl, o, o2, h1, h2, h3, h4, h5, h6⟩
    rw [e0]
    have eL : (L.filter fun q => !((fun _ => false : Int × Int → Bool) q)) = L := List.filter_eq_self.2 fun _ _ => rfl
    have eN : L.filter (fun _ => false) = [] := by simp
    rw [eL, eN]
    exact ⟨_, rfl, o, o2, h1, h2, h3, h4, h5, h6, ⟨none, 0, rfl, Nat.le_refl _, by unfold maxLen; omega, fun _ => rfl, .inl rfl⟩, fun j hj => by cases hj⟩
  · have e0 : rlate now wait = late now wait := by funext q; simp [rlate]; omega
    obtain ⟨o, o2, h1, h2, h3, h4, h5, h6⟩ := h
    have hlt := h2.foot_lt
    refine (expire_on p B o most L N now wait w h1 hnow (by omega)).mono ?_
    rintro e w' ⟨u, o', rfl, hu, hap, hQ, hK⟩
    obtain ⟨hb2, hf2⟩ := hK.below h3.size h4
    rw [e0]
    exact ⟨u, rfl, o', o2, hQ, h2.kept (fun j hj hf => hK.block j hj (fun hq => h6 j hq hf)), h3.trans hb2, hf2, h5, fun j hj hf => (hK.foot j hj).elim (fun hq => h6 j hq hf) (fun hs => by have := hlt j hf; omega), hu, fun j hj hf => by have := hlt j hf; have := (hap j hj).1; omega⟩

theorem qr_rexpire {u : Value} {l : List Int} (h : QRU w0 w p B pk most L L2 N u l) (now wait : Int) (hnow : 0 ≤ now ∧ now ≤ 1000000) (hlen : (L2.length : Int) ≤ 1000) (hr : ∀ q ∈ L2, 0 ≤ q.2 ∧ q.2 ≤ 1000000) :
    Calls Try.prog 19 #[.pointer (some ⟨pk, 0, none⟩), .int .i64 now, .int .i64 wait] w fun e w' => ∃ u2, e = .returned u2 ∧ HoldsI w' u l ∧ HoldsI w' u2 ((L2.filter (rlate now wait)).map (·.1)) ∧ QR w0 w' p B pk most L (L2.filter fun q => !rlate now wait q) N := by
  obtain ⟨o, o2, h1, h2, h3, h4, h5, h6, h7, h8⟩ := h
  have hlt := h1.foot_lt
  refine (rexpire_any pk o2 most L2 now wait w h2 hlen hnow hr).mono ?_
  rintro e w' ⟨u2, o', rfl, hu, hQ, hK⟩
  obtain ⟨hb2, hf2⟩ := hK.below h3.size h5
  exact ⟨u2, rfl, h7.block hK.size (fun j hj hjl => hK.block j hjl (h8 j hj)), hu, o, o', h1.kept (fun j hj hf => hK.block j hj (h6 j hf)), hQ, h3.trans hb2, h4, hf2, fun j hj hf => (hK.foot j hf).elim (h6 j hj) (fun hs => by have := hlt j hj; omega)⟩

theorem qr_list (h : QR w0 w p B pk most L L2 N) :
    Calls Try.prog 21 #[.pointer (some ⟨p, 0, none⟩)] w fun e w' => ∃ u, e = .returned u ∧ HoldsI w' u (L.map (·.1)) ∧ QR w0 w' p B pk most L L2 N := by
  have H := h
  obtain ⟨o, o2, h1, _⟩ := h
  refine (list_any p B o most L N w h1).mono ?_
  rintro e w' ⟨u, rfl, hu, hb⟩
  exact ⟨u, rfl, hu, H.grown hb⟩

theorem qr_rlist {u : Value} {l : List Int} (h : QR w0 w p B pk most L L2 N) (hu : HoldsI w u l) (hlen : (L2.length : Int) ≤ 1000) :
    Calls Try.prog 22 #[.pointer (some ⟨pk, 0, none⟩)] w fun e w' => ∃ u2, e = .returned u2 ∧ HoldsI w' u2 (L2.map (·.1)) ∧ HoldsI w' u l ∧ QR w0 w' p B pk most L L2 N := by
  have H := h
  obtain ⟨o, o2, _, h2, _⟩ := h
  refine (rlist_any pk o2 most L2 w h2 hlen).mono ?_
  rintro e w' ⟨u2, rfl, hu2, hb⟩
  exact ⟨u2, rfl, hu2, hu.block hb.size (fun j _ hjl => hb.block j hjl), H.grown hb⟩

theorem QR.facts (h : QR w0 w p B pk most L L2 N) : (L.map (·.1)).Nodup ∧ (L.length : Int) ≤ most ∧ most ≤ 1000 ∧ ∀ q ∈ L, 0 ≤ q.2 ∧ q.2 ≤ 1000000 := by
  obtain ⟨o, o2, h1, _⟩ := h
  exact ⟨h1.nodup, h1.most_le.1, h1.most_le.2, fun q hq => (h1.range q hq).2⟩

/-- What the document's own queue shows. -/
theorem QR.shows (h : QR w0 w p B pk most L L2 N) : ∃ a c, w.cell? ⟨pk, 1, none⟩ = some (.slice a L2.length c) ∧ ∀ q T, L2 = q :: T → ∃ g, a = some ⟨g, 0, none⟩ ∧ w.cell? ⟨g, 0, none⟩ = some (.int .i64 q.1) := by
  obtain ⟨o, o2, _, h2, _⟩ := h
  obtain ⟨a, c, rfl⟩ := ownsRow_form h2.row
  refine ⟨a, c, h2.cell.2.1, ?_⟩
  rintro q T rfl
  obtain ⟨g, cap, ho, _, _, _, d0, _⟩ := h2.at (k := 0) (by simp)
  injection ho with ho _ _
  exact ⟨g, ho, by simpa using d0⟩
end
end Go.Proofs.Ytcklfdpmggoafaa
