/- Go's way to write digits with a point. -/
import Derived.Test.YtaalopiegabghaaGreatDoorFDigits
import Derived.Deep.Cut
namespace Go.Proofs.YtaalopiegabghaaGreatDoor
open Go.RowKit Go.Lib Go.WideShapes

theorem Tryz.info5 : (Tryz.prog.info? 5).map (fun i => (i.zero, i.size, i.bytes)) = some (some (.int .u8 0), 1, 1) := by kernel_rfl
/-- A row that grows, beside an array of digits that stays. -/
structure DstAt (w0 : World) (B gb : Nat) (w : World) (v : Value) (l T : Bs) : Prop where
  own : w.ownsRow B 5 1 v l.length (byteCells l)
  below : Below B w0 w
  apart : v.ownBlock ≠ some gb
  dg : ∀ j c, T[j]? = some c → w.cell? ⟨gb, j, none⟩ = some (.int .u8 (c.toNat : Nat))
  lt : gb < w.heap.size
  hB : B ≤ w.heap.size
theorem DstAt.push {w0 w w' : World} {B gb : Nat} {v v' : Value} {l T : Bs} {x : UInt8} {o : Obj} (h : DstAt w0 B gb w v l T) (hO : w'.ownsRow B 5 1 v' (l.length + 1) (byteCells l ++ [.int .u8 (x.toNat : Nat)])) (hg : (w.alloc o).grownBy w' v.ownBlock) (ha : ∀ k, v'.ownBlock = some k → v.ownBlock = some k ∨ w.heap.size + 1 ≤ k) : DstAt w0 B gb w' v' (l ++ [x]) T := by
  have hs := hg.size
  rw [World.size_alloc] at hs
  have hk : w'.heap[gb]? = w.heap[gb]? := (hg.block gb (by rw [World.size_alloc]; have := h.lt; omega) (fun e => h.apart e.symm)).trans (((Below.refl w.heap.size w).alloc (Nat.le_refl _) o).block gb h.lt)
  refine ⟨?_, below_grown (h.below.alloc h.hB o) (by rw [World.size_alloc]; have := h.hB; omega) hg (fun q hq => (h.own.lt q hq).1), ?_, fun j c hj => ?_, by have := h.lt; omega, by have := h.hB; omega⟩
  · rw [List.length_append]
    have e : byteCells (l ++ [x]) = byteCells l ++ [.int .u8 (x.toNat : Nat)] := by simp [byteCells]
    rw [e]; exact hO
  · intro e
    rcases ha gb e with h1 | h1
    · exact h.apart h1
    · have := h.lt; omega
  · rw [World.cell?_of_block (a := ⟨gb, j, none⟩) hk]; exact h.dg j c hj
theorem DstAt.drewN {w0 w : World} {B gb : Nat} {v : Value} {l T : Bs} (h : DstAt w0 B gb w v l T) (n : Nat) : DstAt w0 B gb (w.drewN n) v l T := ⟨h.own, below_drewN h.below n, h.apart, h.dg, h.lt, h.hB⟩

theorem fText_pos (T : Bs) {P : Nat} (hP : 1 ≤ P) : fText T P = T.take P ++ (List.replicate (P - T.length) 48 ++ (if P < T.length then 46 :: T.drop P else [])) := by
  unfold fText; rw [if_pos (by omega), Int.toNat_natCast]
/-- A loop that lays bytes behind each other: so many of them, what they are. -/
def LRow (w0 : World) (B gb : Nat) (T : Bs) (top : Nat) (f : Nat → Bs) (x i : Value) (wx : World) : Prop := ∃ (k : Nat) (l : Bs) (y : Value), y = x ∧ i = .int .i64 k ∧ k ≤ top ∧ l = f k ∧ l.length ≤ 100 ∧ DstAt w0 B gb wx y l T
/-- A loop of no rounds. -/
def LStay (w0 : World) (B gb : Nat) (T l : Bs) (x i : Value) (wx : World) : Prop := ∃ y : Value, y = x ∧ i = .int .i64 0 ∧ DstAt w0 B gb wx y l T
/-- What writing leaves. -/
def FmtOut (w0 : World) (B : Nat) (l : Bs) (e : Ending) (w' : World) : Prop := ∃ v, e = .returned v ∧ w'.ownsRow B 5 1 v l.length (byteCells l) ∧ Below B w0 w'
set_option maxRecDepth 100000 in
set_option maxHeartbeats 4000000 in
theorem fmt_zero (w0 w : World) (B gb : Nat) (v : Value) (neg : Bool) (H : DstAt w0 B gb w v [] []) :
    Calls Tryz.prog 59 #[v, .bool neg, .slice none 0 0, .int .i64 0, .int .i64 0, .int .i64 (-1), .int .u8 102, .bool true] w (FmtOut w0 B ((if neg = true then [45] else []) ++ [48])) := by
  obtain ⟨i0, hi, hz0, hz1, hz2⟩ := info_parts Tryz.info5
  obtain ⟨R, hR⟩ : ∃ R, R = (if neg = true then [45] else [] : Bs) ++ [48] := ⟨_, rfl⟩
  rw [← hR]
  have HR := Lib.hid hR
  clear hR
  obtain ⟨l0, hl0⟩ : ∃ l0 : Bs, l0 = [] := ⟨_, rfl⟩
  have E0 := Lib.hid hl0
  have HH := Lib.hid (show DstAt w0 B gb w v l0 [] by rw [hl0]; exact H)
  have B0 := Lib.hid (show l0.length ≤ 0 by rw [hl0]; exact Nat.le_refl _)
  clear H hl0
  cases neg with
  | false =>
    go_enter Tryz.func59, Tryz.ntmps59
    go_wp2_with (at_builtin; refine wpList_append_at _ rfl (.tmp 209) (.tmp 210) 67 rfl B 5 i0 (.int .u8 0) 1 1 Tryz.underlying67 hi hz0 hz1 hz2 rfl (by decide) v (l0).length (byteCells (l0)) rfl (HH.out.own.alloc _) ⟨w.heap.size, 0, none⟩ 1 1 [.int .u8 48] rfl rfl (fun j u h => by rw [WideShapes.add_plain, Nat.zero_add, ← h]; exact (World.cell?_alloc_new w _ _ j).trans (by simp)) (by intro u hu; simp at hu; rcases hu with rfl; rfl) (by have := B0.out; unfold maxLen; omega) (by have := B0.out; omega) (by have := HH.out.hB; first | (rw [World.size_alloc]; omega) | omega) ?_)
    intro v1 w1 hO hg ha
    have hP := HH.out.push (x := 48) hO hg (fun k hk => (ha k hk).imp id (fun h => by first | exact h | (rw [World.size_alloc] at h; exact h)))
    obtain ⟨l1, hl⟩ : ∃ l1, l1 = l0 ++ [48] := ⟨_, rfl⟩
    rw [← hl] at hP
    have H1 := Lib.hid hP
    have E1 := Lib.hid hl
    have B1 := Lib.hid (show l1.length ≤ 1 by have := B0.out; rw [hl, List.length_append, List.length_singleton]; omega)
    clear hO hg ha hP hl
    go_wp2_with fail
    go_ret
    have hRl : R = l1 := by rw [HR.out, E1.out, E0.out]; rfl
    exact ⟨_, rfl, by rw [hRl]; exact H1.out.own, H1.out.below⟩
  | true =>
    go_enter Tryz.func59, Tryz.ntmps59
    go_wp2_with (at_builtin; refine wpList_append_at _ rfl (.tmp 179) (.tmp 180) 67 rfl B 5 i0 (.int .u8 0) 1 1 Tryz.underlying67 hi hz0 hz1 hz2 rfl (by decide) v (l0).length (byteCells (l0)) rfl (HH.out.own.alloc _) ⟨w.heap.size, 0, none⟩ 1 1 [.int .u8 45] rfl rfl (fun j u h => by rw [WideShapes.add_plain, Nat.zero_add, ← h]; exact (World.cell?_alloc_new w _ _ j).trans (by simp)) (by intro u hu; simp at hu; rcases hu with rfl; rfl) (by have := B0.out; unfold maxLen; omega) (by have := B0.out; omega) (by have := HH.out.hB; first | (rw [World.size_alloc]; omega) | omega) ?_)
    intro v1 w1 hO hg ha
    have hP := HH.out.push (x := 45) hO hg (fun k hk => (ha k hk).imp id (fun h => by first | exact h | (rw [World.size_alloc] at h; exact h)))
    obtain ⟨l1, hl⟩ : ∃ l1, l1 = l0 ++ [45] := ⟨_, rfl⟩
    rw [← hl] at hP
    have H1 := Lib.hid hP
    have E1 := Lib.hid hl
    have B1 := Lib.hid (show l1.length ≤ 1 by have := B0.out; rw [hl, List.length_append, List.length_singleton]; omega)
    clear hO hg ha hP hl
    go_wp2_with (at_builtin; refine wpList_append_at _ rfl (.tmp 209) (.tmp 210) 67 rfl B 5 i0 (.int .u8 0) 1 1 Tryz.underlying67 hi hz0 hz1 hz2 rfl (by decide) v1 (l1).length (byteCells (l1)) rfl (H1.out.own.alloc _) ⟨w1.heap.size, 0, none⟩ 1 1 [.int .u8 48] rfl rfl (fun j u h => by rw [WideShapes.add_plain, Nat.zero_add, ← h]; exact (World.cell?_alloc_new w1 _ _ j).trans (by simp)) (by intro u hu; simp at hu; rcases hu with rfl; rfl) (by have := B1.out; unfold maxLen; omega) (by have := B1.out; omega) (by have := H1.out.hB; first | (rw [World.size_alloc]; omega) | omega) ?_)
    intro v2 w2 hO hg ha
    have hP := H1.out.push (x := 48) hO hg (fun k hk => (ha k hk).imp id (fun h => by first | exact h | (rw [World.size_alloc] at h; exact h)))
    obtain ⟨l2, hl⟩ : ∃ l2, l2 = l1 ++ [48] := ⟨_, rfl⟩
    rw [← hl] at hP
    have H2 := Lib.hid hP
    have E2 := Lib.hid hl
    have B2 := Lib.hid (show l2.length ≤ 2 by have := B1.out; rw [hl, List.length_append, List.length_singleton]; omega)
    clear hO hg ha hP hl
    go_wp2_with fail
    go_ret
    have hRl : R = l2 := by rw [HR.out, E2.out, E1.out, E0.out]; rfl
    exact ⟨_, rfl, by rw [hRl]; exact H2.out.own, H2.out.below⟩
set_option maxRecDepth 100000 in
set_option maxHeartbeats 8000000 in
theorem fmt_pos (w0 w : World) (B gb : Nat) (v : Value) (neg : Bool) (T : Bs) (H : DstAt w0 B gb w v [] T) (hT : T.length ≤ 30) (P q : Nat) (hP : 1 ≤ P) (hP2 : P ≤ 30) (hq : q = T.length - P) :
    Calls Tryz.prog 59 #[v, .bool neg, .slice (some ⟨gb, 0, none⟩) 32 32, .int .i64 P, .int .i64 T.length, .int .i64 q, .int .u8 102, .bool true] w (FmtOut w0 B ((if neg = true then [45] else []) ++ fText T P)) := by
  obtain ⟨i0, hi, hz0, hz1, hz2⟩ := info_parts Tryz.info5
  have HT := Lib.hid hT
  obtain ⟨R, hR⟩ : ∃ R, R = (if neg = true then [45] else [] : Bs) ++ fText T P := ⟨_, rfl⟩
  rw [← hR]
  obtain ⟨sg, hsg⟩ : ∃ sg : Bs, sg = (if neg = true then [45] else []) := ⟨_, rfl⟩
  rw [← hsg] at hR
  have HSG := Lib.hid hsg
  have HSGL := Lib.hid (show sg.length ≤ 1 by rw [hsg]; cases neg <;> decide)
  have HR := Lib.hid (show R = sg ++ (T.take P ++ (List.replicate (P - T.length) 48 ++ (if P < T.length then 46 :: T.drop P else []))) by
    rw [hR, fText_pos T hP])
  obtain ⟨l0, hl0⟩ : ∃ l0 : Bs, l0 = [] := ⟨_, rfl⟩
  have E0 := Lib.hid hl0
  have HH := Lib.hid (show DstAt w0 B gb w v l0 T by rw [hl0]; exact H)
  have B0 := Lib.hid (show l0.length ≤ 0 by rw [hl0]; exact Nat.le_refl _)
  obtain ⟨n, hn⟩ : ∃ n, n = T.length := ⟨_, rfl⟩
  have HN := Lib.hid hn
  rw [← hn] at hT hq ⊢
  have q0 : (q : Int) ≤ 30 := by omega
  obtain ⟨mm, hmm⟩ : ∃ mm, mm = min n P := ⟨_, rfl⟩
  have m1 : (min (n : Int) P) = mm := by omega
  have m2 : (mm : Int) ≤ 30 := by omega
  have m3 : (P : Int) - mm = (P - mm : Nat) := by omega
  obtain ⟨r, hr⟩ : ∃ r, r = P - mm := ⟨_, rfl⟩
  rw [← hr] at m3
  have HRR := Lib.hid hr; have HMM := Lib.hid hmm; have HQ := Lib.hid hq
  have p1 : (1 : Int) ≤ P := by omega
  have pd1 : decide (0 < P) = true := decide_eq_true (by omega)
  have pd2 : decide ((0 : Int) < P) = true := decide_eq_true (by omega)
  have p2 : (P : Int) ≤ 30 := by omega
  have r1 : (r : Int) ≤ 30 := by omega
  have hmmn : mm ≤ n := by omega
  have hmn : mm ≤ 30 := by omega
  clear H hl0 hR hn hmm hr hq hsg
  go_enter Tryz.func59, Tryz.ntmps59
  go_upto_if 178 with (fail)
  go_cut [0] (fun x wx => ∃ l : Bs, DstAt w0 B gb wx x l T ∧ l = sg ∧ l.length ≤ 1)
  case first =>
    cases neg with
    | false =>
      go_wp2_with fail
      go_meet
      exact ⟨l0, HH.out, by rw [E0.out, HSG.out]; rfl, by have := B0.out; omega⟩
    | true =>
      go_wp2_with (at_builtin; refine wpList_append_at _ rfl (.tmp 179) (.tmp 180) 67 rfl B 5 i0 (.int .u8 0) 1 1 Tryz.underlying67 hi hz0 hz1 hz2 rfl (by decide) v (l0).length (byteCells (l0)) rfl (HH.out.own.alloc _) ⟨w.heap.size, 0, none⟩ 1 1 [.int .u8 45] rfl rfl (fun j u h => by rw [WideShapes.add_plain, Nat.zero_add, ← h]; exact (World.cell?_alloc_new w _ _ j).trans (by simp)) (by intro u hu; simp at hu; rcases hu with rfl; rfl) (by have := B0.out; unfold maxLen; omega) (by have := B0.out; omega) (by have := HH.out.hB; first | (rw [World.size_alloc]; omega) | omega) ?_)
      intro v1 w1 hO hg ha
      have hP := HH.out.push (x := 45) hO hg (fun k hk => (ha k hk).imp id (fun h => by first | exact h | (rw [World.size_alloc] at h; exact h)))
      obtain ⟨l1, hl⟩ : ∃ l1, l1 = l0 ++ [45] := ⟨_, rfl⟩
      rw [← hl] at hP
      have H1 := Lib.hid hP
      have E1 := Lib.hid hl
      have B1 := Lib.hid (show l1.length ≤ 1 by have := B0.out; rw [hl, List.length_append, List.length_singleton]; omega)
      clear hO hg ha hP hl
      go_wp2_with fail
      go_meet
      exact ⟨l1, H1.out, by rw [E1.out, E0.out, HSG.out]; rfl, B1.out⟩
  case rest =>
    obtain ⟨ls, hD, hls, hlb⟩ := hcut
    have HD := Lib.hid hD; have ELS := Lib.hid hls; have BLS := Lib.hid hlb
    clear hD hls hlb HH E0 B0
    go_wp2_with fail
    go_loopw [0, 191] (LRow w0 B gb T mm (fun k => sg ++ T.take k)) (fun _ i _ => mm - (RowKit.intOf i).toNat)
    case atStart => exact ⟨0, ls, _, rfl, rfl, Nat.zero_le _, by rw [ELS.out]; simp, by have := BLS.out; omega, HD.out⟩
    case round =>
      obtain ⟨k, l, y, rfl, rfl, hk, hl, hlb, hDk⟩ := hrel
      have HK := Lib.hid hDk; have ELK := Lib.hid (show l = sg ++ T.take k from hl)
      by_cases hlt : k < mm
      · have hkT : k < T.length := by have := HN.out; omega
        have hc := hDk.dg k T[k] (List.getElem?_eq_getElem hkT)
        obtain ⟨c, hce⟩ : ∃ c, c = T[k] := ⟨_, rfl⟩
        rw [← hce] at hc
        have HCE := Lib.hid hce
        have BLK := Lib.hid (show l.length ≤ 31 by rw [hl, List.length_append, List.length_take]; have := HSGL.out; omega)
        have hlt' : (k : Int) < mm := by omega
        clear hDk hl hlb hce
        go_wp2_with (at_builtin; refine wpList_append_at _ rfl (.tmp 195) (.tmp 197) 67 rfl B 5 i0 (.int .u8 0) 1 1 Tryz.underlying67 hi hz0 hz1 hz2 rfl (by decide) y (l).length (byteCells (l)) rfl (HK.out.own.alloc _) ⟨wr.heap.size, 0, none⟩ 1 1 [.int .u8 (c.toNat : Nat)] rfl rfl (fun j u h => by rw [WideShapes.add_plain, Nat.zero_add, ← h]; exact (World.cell?_alloc_new wr _ _ j).trans (by simp)) (by intro u hu; simp at hu; rcases hu with rfl; rfl) (by have := BLK.out; unfold maxLen; omega) (by have := BLK.out; omega) (by have := HK.out.hB; first | (rw [World.size_alloc]; omega) | omega) ?_)
        intro v3 w3 hO hg ha
        have hP := HK.out.push (x := c) hO hg (fun k hk => (ha k hk).imp id (fun h => by first | exact h | (rw [World.size_alloc] at h; exact h)))
        obtain ⟨l3, hl⟩ : ∃ l3, l3 = l ++ [c] := ⟨_, rfl⟩
        rw [← hl] at hP
        have H3 := Lib.hid hP
        have E3 := Lib.hid hl
        have B3 := Lib.hid (show l3.length ≤ 32 by have := BLK.out; rw [hl, List.length_append, List.length_singleton]; omega)
        clear hO hg ha hP hl
        go_wp2_with fail
        go_roundw
        case rel => exact ⟨k + 1, l3, _, rfl, by go_num, hlt, by show l3 = sg ++ T.take (k + 1); rw [E3.out, ELK.out, List.take_succ_eq_append_getElem hkT, ← HCE.out, List.append_assoc], by have := B3.out; omega, H3.out⟩
        case measure => simp [RowKit.intOf]; omega
      · obtain rfl : mm = k := by omega
        have BLK := Lib.hid (show l.length ≤ 31 by rw [hl, List.length_append, List.length_take]; have := HSGL.out; omega)
        clear hDk hl hlb hlt hk HD ELS BLS
        go_wp2_with fail
        go_loopw [0, 203] (LRow w0 B gb T r (fun i => sg ++ T.take mm ++ List.replicate i 48))
          (fun _ i _ => r - (RowKit.intOf i).toNat)
        case atStart => exact ⟨0, l, _, rfl, rfl, Nat.zero_le _, by show l = sg ++ T.take mm ++ List.replicate 0 48; rw [ELK.out, List.replicate_zero, List.append_nil], by have := BLK.out; omega, HK.out⟩
        case round =>
          obtain ⟨k, l4, y4, rfl, rfl, hk, hl, hlb, hDk⟩ := hrel
          have HK4 := Lib.hid hDk; have EL4 := Lib.hid (show l4 = sg ++ T.take mm ++ List.replicate k 48 from hl)
          have BL4 := Lib.hid (show l4.length ≤ 31 by rw [hl, List.length_append, List.length_append, List.length_take, List.length_replicate]; have := HSGL.out; have := HRR.out; have := HMM.out; omega)
          clear hDk hl hlb
          by_cases hlt : k < r
          · have hlt' : (k : Int) < r := by omega
            go_wp2_with (at_builtin; refine wpList_append_at _ rfl (.tmp 205) (.tmp 206) 67 rfl B 5 i0 (.int .u8 0) 1 1 Tryz.underlying67 hi hz0 hz1 hz2 rfl (by decide) y4 (l4).length (byteCells (l4)) rfl (HK4.out.own.alloc _) ⟨wr.heap.size, 0, none⟩ 1 1 [.int .u8 48] rfl rfl (fun j u h => by rw [WideShapes.add_plain, Nat.zero_add, ← h]; exact (World.cell?_alloc_new wr _ _ j).trans (by simp)) (by intro u hu; simp at hu; rcases hu with rfl; rfl) (by have := BL4.out; unfold maxLen; omega) (by have := BL4.out; omega) (by have := HK4.out.hB; first | (rw [World.size_alloc]; omega) | omega) ?_)
            intro v5 w5 hO hg ha
            have hP := HK4.out.push (x := 48) hO hg (fun k hk => (ha k hk).imp id (fun h => by first | exact h | (rw [World.size_alloc] at h; exact h)))
            obtain ⟨l5, hl⟩ : ∃ l5, l5 = l4 ++ [48] := ⟨_, rfl⟩
            rw [← hl] at hP
            have H5 := Lib.hid hP
            have E5 := Lib.hid hl
            have B5 := Lib.hid (show l5.length ≤ 32 by have := BL4.out; rw [hl, List.length_append, List.length_singleton]; omega)
            clear hO hg ha hP hl
            go_wp2_with fail
            go_roundw
            case rel => exact ⟨k + 1, l5, _, rfl, by go_num, hlt, by show l5 = sg ++ T.take mm ++ List.replicate (k + 1) 48; rw [E5.out, EL4.out, List.replicate_succ', ← List.append_assoc], by have := B5.out; omega, H5.out⟩
            case measure => simp [RowKit.intOf]; omega
          · obtain rfl : r = k := by omega
            clear hlt hk HK ELK BLK
            by_cases hq0 : q = 0
            · have hqd : decide ((0 : Int) < q) = false := decide_eq_false (by omega)
              have hqn : decide (0 < q) = false := decide_eq_false (by omega)
              have hPn : ¬ P < n := by have := HQ.out; omega
              have HRR2 := Lib.hid (show R = l4 by
                rw [HR.out, EL4.out, HRR.out, HMM.out, ← HN.out, if_neg hPn, List.append_nil, Nat.min_eq_left (by omega), List.append_assoc]
                rw [List.take_of_length_le (by rw [← HN.out]; omega), List.take_of_length_le (by rw [← HN.out]; exact Nat.le_refl _)])
              have hq1 : (q : Int) ≤ 0 := by omega
              clear hPn
              go_wp2_with fail
              go_ret
              exact ⟨_, rfl, by rw [HRR2.out]; exact HK4.out.own, HK4.out.below⟩
            · have hqd : decide ((0 : Int) < q) = true := decide_eq_true (by omega)
              have hqn : decide (0 < q) = true := decide_eq_true (by omega)
              have hq1 : (0 : Int) < q := by omega
              have hPn : P < n := by have := HQ.out; omega
              have hr0 : r = 0 := by have := HRR.out; have := HMM.out; omega
              have hmP : mm = P := by have := HMM.out; omega
              have z1 : max 0 (-(P : Int)) = 0 := by omega
              have z2 : min (q : Int) 0 = 0 := by omega
              have z3 : (n : Int) - P = q := by have := HQ.out; omega
              have z4 : max 0 (q : Int) = q := by omega
              have z5 : min (q : Int) q = q := by omega
              have HR0 := Lib.hid hr0; have HMP := Lib.hid hmP; have HPN := Lib.hid hPn
              clear hr0 hmP hPn
              go_wp2_with (at_builtin; refine wpList_append_at _ rfl (.tmp 214) (.tmp 215) 67 rfl B 5 i0 (.int .u8 0) 1 1 Tryz.underlying67 hi hz0 hz1 hz2 rfl (by decide) y4 (l4).length (byteCells (l4)) rfl (HK4.out.own.alloc _) ⟨wr.heap.size, 0, none⟩ 1 1 [.int .u8 46] rfl rfl (fun j u h => by rw [WideShapes.add_plain, Nat.zero_add, ← h]; exact (World.cell?_alloc_new wr _ _ j).trans (by simp)) (by intro u hu; simp at hu; rcases hu with rfl; rfl) (by have := BL4.out; unfold maxLen; omega) (by have := BL4.out; omega) (by have := HK4.out.hB; first | (rw [World.size_alloc]; omega) | omega) ?_)
              intro v6 w6 hO hg ha
              have hP := HK4.out.push (x := 46) hO hg (fun k hk => (ha k hk).imp id (fun h => by first | exact h | (rw [World.size_alloc] at h; exact h)))
              obtain ⟨l6, hl⟩ : ∃ l6, l6 = l4 ++ [46] := ⟨_, rfl⟩
              rw [← hl] at hP
              have H6 := Lib.hid hP
              have E6 := Lib.hid hl
              have B6 := Lib.hid (show l6.length ≤ 32 by have := BL4.out; rw [hl, List.length_append, List.length_singleton]; omega)
              clear hO hg ha hP hl
              have E6' := Lib.hid (show l6 = sg ++ T.take P ++ [46] by rw [E6.out, EL4.out, HR0.out, HMP.out, List.replicate_zero, List.append_nil])
              go_wp2_with fail
              clear z1 z2 z4 z5
              go_loopw [0, 240] (LStay w0 B gb T l6) (fun _ _ _ => 0)
              case atStart => exact ⟨_, rfl, rfl, H6.out⟩
              case round =>
                obtain ⟨y7, rfl, rfl, hD7⟩ := hrel
                have H7 := Lib.hid hD7
                clear hD7 H6
                go_wp2_with fail
                go_loopw [0, 247] (LRow w0 B gb T q (fun k => sg ++ T.take P ++ [46] ++ (T.drop P).take k)) (fun _ i _ => q - (RowKit.intOf i).toNat)
                case atStart => exact ⟨0, l6, _, rfl, rfl, Nat.zero_le _, by show l6 = sg ++ T.take P ++ [46] ++ (T.drop P).take 0; rw [E6'.out, List.take_zero, List.append_nil], by have := B6.out; omega, H7.out⟩
                case round =>
                  obtain ⟨k, l8, y8, rfl, rfl, hk, hl, hlb, hDk⟩ := hrel
                  have H8 := Lib.hid hDk; have EL8 := Lib.hid (show l8 = sg ++ T.take P ++ [46] ++ (T.drop P).take k from hl)
                  have BL8 := Lib.hid (show l8.length ≤ 40 by rw [EL8.out, List.length_append, List.length_append, List.length_append, List.length_take, List.length_take, List.length_drop]; have := HSGL.out; have := HN.out; simp; omega)
                  by_cases hlt : k < q
                  · have hkT : P + k < T.length := by have := HN.out; have := HQ.out; omega
                    have hc := hDk.dg (P + k) T[P + k] (List.getElem?_eq_getElem hkT)
                    obtain ⟨c, hce⟩ : ∃ c, c = T[P + k] := ⟨_, rfl⟩
                    rw [← hce] at hc
                    have HCE := Lib.hid hce
                    have hlt' : (k : Int) < q := by omega
                    have hPk : (P : Int) + k < 32 := by have := HN.out; omega
                    clear hDk hl hlb hce
                    go_wp2_with (at_builtin; refine wpList_append_at _ rfl (.tmp 250) (.tmp 257) 67 rfl B 5 i0 (.int .u8 0) 1 1 Tryz.underlying67 hi hz0 hz1 hz2 rfl (by decide) y8 (l8).length (byteCells (l8)) rfl (H8.out.own.alloc _) ⟨wr.heap.size, 0, none⟩ 1 1 [.int .u8 (c.toNat : Nat)] rfl rfl (fun j u h => by rw [WideShapes.add_plain, Nat.zero_add, ← h]; exact (World.cell?_alloc_new wr _ _ j).trans (by simp)) (by intro u hu; simp at hu; rcases hu with rfl; rfl) (by have := BL8.out; unfold maxLen; omega) (by have := BL8.out; omega) (by have := H8.out.hB; first | (rw [World.size_alloc]; omega) | omega) ?_)
                    intro v9 w9 hO hg ha
                    have hP := H8.out.push (x := c) hO hg (fun k hk => (ha k hk).imp id (fun h => by first | exact h | (rw [World.size_alloc] at h; exact h)))
                    obtain ⟨l9, hl⟩ : ∃ l9, l9 = l8 ++ [c] := ⟨_, rfl⟩
                    rw [← hl] at hP
                    have H9 := Lib.hid hP
                    have E9 := Lib.hid hl
                    have B9 := Lib.hid (show l9.length ≤ 41 by have := BL8.out; rw [hl, List.length_append, List.length_singleton]; omega)
                    clear hO hg ha hP hl
                    go_wp2_with fail
                    go_roundw
                    case rel => exact ⟨k + 1, l9, _, rfl, by go_num, hlt, by
                      show l9 = sg ++ T.take P ++ [46] ++ (T.drop P).take (k + 1)
                      have hkd : k < (T.drop P).length := by rw [List.length_drop]; omega
                      rw [E9.out, EL8.out, List.take_succ_eq_append_getElem hkd, List.getElem_drop, ← HCE.out]
                      simp only [List.append_assoc], by have := B9.out; omega, H9.out⟩
                    case measure => simp [RowKit.intOf]; omega
                  · obtain rfl : q = k := by omega
                    clear hDk hl hlb hlt hk
                    go_wp2_with fail
                    go_loopw [0, 261] (LStay w0 B gb T l8) (fun _ _ _ => 0)
                    case atStart => exact ⟨_, rfl, rfl, H8.out⟩
                    case round =>
                      obtain ⟨y10, rfl, rfl, hD10⟩ := hrel
                      have H10 := Lib.hid hD10
                      have htk : (T.drop P).take q = T.drop P := List.take_of_length_le (by rw [List.length_drop, ← HN.out, HQ.out]; exact Nat.le_refl _)
                      have HRR2 := Lib.hid (show R = l8 by
                        rw [HR.out, EL8.out, if_pos (by rw [← HN.out]; exact HPN.out), ← HN.out, show P - n = 0 by have := HPN.out; omega, List.replicate_zero, List.nil_append, htk]
                        simp only [List.append_assoc]; rfl)
                      clear hD10 H8 htk
                      go_wp2_with fail
                      go_ret
                      exact ⟨_, rfl, by rw [HRR2.out]; exact H10.out.own, H10.out.below⟩
set_option maxRecDepth 100000 in
set_option maxHeartbeats 8000000 in
theorem fmt_neg (w0 w : World) (B gb : Nat) (v : Value) (neg : Bool) (T : Bs) (H : DstAt w0 B gb w v [] T) (hT : T.length ≤ 30) (z q : Nat) (hz : z ≤ 30) (hT0 : 0 < T.length) (hq : q = T.length + z) :
    Calls Tryz.prog 59 #[v, .bool neg, .slice (some ⟨gb, 0, none⟩) 32 32, .int .i64 (-(z : Int)), .int .i64 T.length, .int .i64 q, .int .u8 102, .bool true] w (FmtOut w0 B ((if neg = true then [45] else []) ++ fText T (-(z : Int)))) := by
  obtain ⟨i0, hi, hz0, hz1, hz2⟩ := info_parts Tryz.info5
  have HT := Lib.hid hT
  obtain ⟨R, hR⟩ : ∃ R, R = (if neg = true then [45] else [] : Bs) ++ fText T (-(z : Int)) := ⟨_, rfl⟩
  rw [← hR]
  obtain ⟨sg, hsg⟩ : ∃ sg : Bs, sg = (if neg = true then [45] else []) := ⟨_, rfl⟩
  rw [← hsg] at hR
  have HSG := Lib.hid hsg
  have HSGL := Lib.hid (show sg.length ≤ 1 by rw [hsg]; cases neg <;> decide)
  have HR := Lib.hid (show R = sg ++ [48] ++ [46] ++ List.replicate z 48 ++ T by
    rw [hR]; unfold fText; rw [if_neg (by omega), Int.neg_neg, Int.toNat_natCast]; simp only [List.append_assoc]; rfl)
  obtain ⟨l0, hl0⟩ : ∃ l0 : Bs, l0 = [] := ⟨_, rfl⟩
  have E0 := Lib.hid hl0
  have HH := Lib.hid (show DstAt w0 B gb w v l0 T by rw [hl0]; exact H)
  have B0 := Lib.hid (show l0.length ≤ 0 by rw [hl0]; exact Nat.le_refl _)
  obtain ⟨n, hn⟩ : ∃ n, n = T.length := ⟨_, rfl⟩
  have HN := Lib.hid hn
  rw [← hn] at hT hq hT0 ⊢
  have q0 : (q : Int) ≤ 60 := by omega
  have qd1 : decide (0 < q) = true := decide_eq_true (by omega)
  have qd2 : decide ((0 : Int) < q) = true := decide_eq_true (by omega)
  have q1 : (0 : Int) < q := by omega
  have n1 : (n : Int) ≤ 30 := by omega
  have zi : (z : Int) ≤ 30 := by omega
  have y1 : max 0 (z : Int) = z := by omega
  have y2 : min (q : Int) z = z := by omega
  have y3 : -(z : Int) + z = 0 := by omega
  have y4 : (q : Int) - z = n := by omega
  have y5 : max 0 (n : Int) = n := by omega
  have y6 : min (n : Int) n = n := by omega
  have y7 : decide ((0 : Int) < -(z : Int)) = false := decide_eq_false (by omega)
  have HZI := Lib.hid hz
  clear H hl0 hR hn hq hsg hT0
  go_enter Tryz.func59, Tryz.ntmps59
  go_upto_if 178 with (fail)
  go_cut [0] (fun x wx => ∃ l : Bs, DstAt w0 B gb wx x l T ∧ l = sg ∧ l.length ≤ 1)
  case first =>
    cases neg with
    | false =>
      go_wp2_with fail
      go_meet
      exact ⟨l0, HH.out, by rw [E0.out, HSG.out]; rfl, by have := B0.out; omega⟩
    | true =>
      go_wp2_with (at_builtin; refine wpList_append_at _ rfl (.tmp 179) (.tmp 180) 67 rfl B 5 i0 (.int .u8 0) 1 1 Tryz.underlying67 hi hz0 hz1 hz2 rfl (by decide) v (l0).length (byteCells (l0)) rfl (HH.out.own.alloc _) ⟨w.heap.size, 0, none⟩ 1 1 [.int .u8 45] rfl rfl (fun j u h => by rw [WideShapes.add_plain, Nat.zero_add, ← h]; exact (World.cell?_alloc_new w _ _ j).trans (by simp)) (by intro u hu; simp at hu; rcases hu with rfl; rfl) (by have := B0.out; unfold maxLen; omega) (by have := B0.out; omega) (by have := HH.out.hB; first | (rw [World.size_alloc]; omega) | omega) ?_)
      intro v1 w1 hO hg ha
      have hP := HH.out.push (x := 45) hO hg (fun k hk => (ha k hk).imp id (fun h => by first | exact h | (rw [World.size_alloc] at h; exact h)))
      obtain ⟨l1, hl⟩ : ∃ l1, l1 = l0 ++ [45] := ⟨_, rfl⟩
      rw [← hl] at hP
      have H1 := Lib.hid hP
      have E1 := Lib.hid hl
      have B1 := Lib.hid (show l1.length ≤ 1 by have := B0.out; rw [hl, List.length_append, List.length_singleton]; omega)
      clear hO hg ha hP hl
      go_wp2_with fail
      go_meet
      exact ⟨l1, H1.out, by rw [E1.out, E0.out, HSG.out]; rfl, B1.out⟩
  case rest =>
    obtain ⟨ls, hD, hls, hlb⟩ := hcut
    have HD := Lib.hid hD; have ELS := Lib.hid hls; have BLS := Lib.hid hlb
    clear hD hls hlb HH E0 B0
    go_upto_if 183 with (fail)
    go_wp2_with (at_builtin; refine wpList_append_at _ rfl (.tmp 209) (.tmp 210) 67 rfl B 5 i0 (.int .u8 0) 1 1 Tryz.underlying67 hi hz0 hz1 hz2 rfl (by decide) u0 (ls).length (byteCells (ls)) rfl (HD.out.own.alloc _) ⟨wc.heap.size, 0, none⟩ 1 1 [.int .u8 48] rfl rfl (fun j u h => by rw [WideShapes.add_plain, Nat.zero_add, ← h]; exact (World.cell?_alloc_new wc _ _ j).trans (by simp)) (by intro u hu; simp at hu; rcases hu with rfl; rfl) (by have := BLS.out; unfold maxLen; omega) (by have := BLS.out; omega) (by have := HD.out.hB; first | (rw [World.size_alloc]; omega) | omega) ?_)
    intro v2 w2 hO hg ha
    have hP := HD.out.push (x := 48) hO hg (fun k hk => (ha k hk).imp id (fun h => by first | exact h | (rw [World.size_alloc] at h; exact h)))
    obtain ⟨l2, hl⟩ : ∃ l2, l2 = ls ++ [48] := ⟨_, rfl⟩
    rw [← hl] at hP
    have H2 := Lib.hid hP
    have E2 := Lib.hid hl
    have B2 := Lib.hid (show l2.length ≤ 2 by have := BLS.out; rw [hl, List.length_append, List.length_singleton]; omega)
    clear hO hg ha hP hl
    go_wp2_with (at_builtin; refine wpList_append_at _ rfl (.tmp 214) (.tmp 215) 67 rfl B 5 i0 (.int .u8 0) 1 1 Tryz.underlying67 hi hz0 hz1 hz2 rfl (by decide) v2 (l2).length (byteCells (l2)) rfl (H2.out.own.alloc _) ⟨w2.heap.size, 0, none⟩ 1 1 [.int .u8 46] rfl rfl (fun j u h => by rw [WideShapes.add_plain, Nat.zero_add, ← h]; exact (World.cell?_alloc_new w2 _ _ j).trans (by simp)) (by intro u hu; simp at hu; rcases hu with rfl; rfl) (by have := B2.out; unfold maxLen; omega) (by have := B2.out; omega) (by have := H2.out.hB; first | (rw [World.size_alloc]; omega) | omega) ?_)
    intro v3 w3 hO hg ha
    have hP := H2.out.push (x := 46) hO hg (fun k hk => (ha k hk).imp id (fun h => by first | exact h | (rw [World.size_alloc] at h; exact h)))
    obtain ⟨l3, hl⟩ : ∃ l3, l3 = l2 ++ [46] := ⟨_, rfl⟩
    rw [← hl] at hP
    have H3 := Lib.hid hP
    have E3 := Lib.hid hl
    have B3 := Lib.hid (show l3.length ≤ 3 by have := B2.out; rw [hl, List.length_append, List.length_singleton]; omega)
    clear hO hg ha hP hl
    have EZ := Lib.hid (show l3 = sg ++ [48] ++ [46] by rw [E3.out, E2.out, ELS.out])
    go_wp2_with fail
    clear y1 y2 y4 y5 y6
    go_loopw [0, 240] (LRow w0 B gb T z (fun k => sg ++ [48] ++ [46] ++ List.replicate k 48)) (fun _ i _ => z - (RowKit.intOf i).toNat)
    case atStart => exact ⟨0, l3, _, rfl, rfl, Nat.zero_le _, by show l3 = sg ++ [48] ++ [46] ++ List.replicate 0 48; rw [EZ.out, List.replicate_zero, List.append_nil], by have := B3.out; omega, H3.out⟩
    case round =>
      obtain ⟨k, l4, y4, rfl, rfl, hk, hl, hlb, hDk⟩ := hrel
      have HK4 := Lib.hid hDk; have EL4 := Lib.hid (show l4 = sg ++ [48] ++ [46] ++ List.replicate k 48 from hl)
      have BL4 := Lib.hid (show l4.length ≤ 40 by rw [EL4.out, List.length_append, List.length_append, List.length_append, List.length_replicate]; have := HSGL.out; have := HZI.out; simp; omega)
      clear hDk hl hlb
      by_cases hlt : k < z
      · have hlt' : (k : Int) < z := by omega
        go_wp2_with (at_builtin; refine wpList_append_at _ rfl (.tmp 242) (.tmp 243) 67 rfl B 5 i0 (.int .u8 0) 1 1 Tryz.underlying67 hi hz0 hz1 hz2 rfl (by decide) y4 (l4).length (byteCells (l4)) rfl (HK4.out.own.alloc _) ⟨wr.heap.size, 0, none⟩ 1 1 [.int .u8 48] rfl rfl (fun j u h => by rw [WideShapes.add_plain, Nat.zero_add, ← h]; exact (World.cell?_alloc_new wr _ _ j).trans (by simp)) (by intro u hu; simp at hu; rcases hu with rfl; rfl) (by have := BL4.out; unfold maxLen; omega) (by have := BL4.out; omega) (by have := HK4.out.hB; first | (rw [World.size_alloc]; omega) | omega) ?_)
        intro v5 w5 hO hg ha
        have hP := HK4.out.push (x := 48) hO hg (fun k hk => (ha k hk).imp id (fun h => by first | exact h | (rw [World.size_alloc] at h; exact h)))
        obtain ⟨l5, hl⟩ : ∃ l5, l5 = l4 ++ [48] := ⟨_, rfl⟩
        rw [← hl] at hP
        have H5 := Lib.hid hP
        have E5 := Lib.hid hl
        have B5 := Lib.hid (show l5.length ≤ 41 by have := BL4.out; rw [hl, List.length_append, List.length_singleton]; omega)
        clear hO hg ha hP hl
        go_wp2_with fail
        go_roundw
        case rel => exact ⟨k + 1, l5, _, rfl, by go_num, hlt, by show l5 = sg ++ [48] ++ [46] ++ List.replicate (k + 1) 48; rw [E5.out, EL4.out, List.replicate_succ', ← List.append_assoc], by have := B5.out; omega, H5.out⟩
        case measure => simp [RowKit.intOf]; omega
      · obtain rfl : z = k := by omega
        clear hlt hk
        go_wp2_with fail
        go_loopw [0, 247] (LRow w0 B gb T n (fun k => sg ++ [48] ++ [46] ++ List.replicate z 48 ++ T.take k)) (fun _ i _ => n - (RowKit.intOf i).toNat)
        case atStart => exact ⟨0, l4, _, rfl, rfl, Nat.zero_le _, by show l4 = sg ++ [48] ++ [46] ++ List.replicate z 48 ++ T.take 0; rw [EL4.out, List.take_zero, List.append_nil], by have := BL4.out; omega, HK4.out⟩
        case round =>
          obtain ⟨k, l8, y8, rfl, rfl, hk, hl, hlb, hDk⟩ := hrel
          have H8 := Lib.hid hDk; have EL8 := Lib.hid (show l8 = sg ++ [48] ++ [46] ++ List.replicate z 48 ++ T.take k from hl)
          have BL8 := Lib.hid (show l8.length ≤ 98 by rw [EL8.out, List.length_append, List.length_append, List.length_append, List.length_append, List.length_take, List.length_replicate]; have := HSGL.out; have := HN.out; have := HZI.out; simp; omega)
          by_cases hlt : k < n
          · have hkT : k < T.length := by have := HN.out; omega
            have hc := hDk.dg k T[k] (List.getElem?_eq_getElem hkT)
            obtain ⟨c, hce⟩ : ∃ c, c = T[k] := ⟨_, rfl⟩
            rw [← hce] at hc
            have HCE := Lib.hid hce
            have hlt' : (k : Int) < n := by omega
            clear hDk hl hce
            go_wp2_with (at_builtin; refine wpList_append_at _ rfl (.tmp 250) (.tmp 257) 67 rfl B 5 i0 (.int .u8 0) 1 1 Tryz.underlying67 hi hz0 hz1 hz2 rfl (by decide) y8 (l8).length (byteCells (l8)) rfl (H8.out.own.alloc _) ⟨wr.heap.size, 0, none⟩ 1 1 [.int .u8 (c.toNat : Nat)] rfl rfl (fun j u h => by rw [WideShapes.add_plain, Nat.zero_add, ← h]; exact (World.cell?_alloc_new wr _ _ j).trans (by simp)) (by intro u hu; simp at hu; rcases hu with rfl; rfl) (by have := BL8.out; unfold maxLen; omega) (by have := BL8.out; omega) (by have := H8.out.hB; first | (rw [World.size_alloc]; omega) | omega) ?_)
            intro v9 w9 hO hg ha
            have hP := H8.out.push (x := c) hO hg (fun k hk => (ha k hk).imp id (fun h => by first | exact h | (rw [World.size_alloc] at h; exact h)))
            obtain ⟨l9, hl⟩ : ∃ l9, l9 = l8 ++ [c] := ⟨_, rfl⟩
            rw [← hl] at hP
            have H9 := Lib.hid hP
            have E9 := Lib.hid hl
            have B9 := Lib.hid (show l9.length ≤ 99 by have := BL8.out; rw [hl, List.length_append, List.length_singleton]; omega)
            clear hO hg ha hP hl
            go_wp2_with fail
            go_roundw
            case rel => exact ⟨k + 1, l9, _, rfl, by go_num, hlt, by show l9 = sg ++ [48] ++ [46] ++ List.replicate z 48 ++ T.take (k + 1); rw [E9.out, EL8.out, List.take_succ_eq_append_getElem hkT, ← HCE.out]; simp only [List.append_assoc], by rw [E9.out, List.length_append, List.length_singleton, EL8.out, List.length_append, List.length_append, List.length_append, List.length_append, List.length_take, List.length_replicate]; have := HSGL.out; have := HN.out; have := HZI.out; simp; omega, H9.out⟩
            case measure => simp [RowKit.intOf]; omega
          · obtain rfl : n = k := by omega
            have HRR2 := Lib.hid (show R = l8 by rw [HR.out, EL8.out, List.take_of_length_le (by rw [← HN.out]; exact Nat.le_refl _)])
            clear hDk hl hlb hlt hk
            go_wp2_with fail
            go_loopw [0, 261] (LStay w0 B gb T l8) (fun _ _ _ => 0)
            case atStart => exact ⟨_, rfl, rfl, H8.out⟩
            case round =>
              obtain ⟨y10, rfl, rfl, hD10⟩ := hrel
              have H10 := Lib.hid hD10
              clear hD10 H8
              go_wp2_with fail
              go_ret
              exact ⟨_, rfl, by rw [HRR2.out]; exact H10.out.own, H10.out.below⟩
end Go.Proofs.YtaalopiegabghaaGreatDoor
