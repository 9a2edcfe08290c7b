/- Contracts and mathematics: GPairs, GAnsM, GAnswer, MTextsM. -/
import Derived.Test.YtpijolcklmdjbaaGreatDoorZ30
import Derived.Test.YtpijolcklmdjbaaGreatDoorZ8
import Derived.BigQuiet
import Derived.Deep.QuietTactic
import Derived.Test.YtpijolcklmdjbaaGreatDoorZ10
import Derived.Test.YtpijolcklmdjbaaGreatDoorZ13
import Derived.Lib.ItoaLen
namespace Go.Proofs.YtpijolcklmdjbaaGreatDoor
open Go.RowKit Go.Lib Go.WideShapes Go.ChangeShapes Go.ChangeAt Go.Joins

abbrev Pairs := List (ByteArray × ByteArray)
/-- v reads the pairs of g. -/
def Holds (w : World) (v : Value) (g : Pairs) : Prop :=
  ∃ a c, v = .slice a g.length c ∧ g.length ≤ c ∧ c ≤ maxLen ∧ (a = none → c = 0) ∧ (g = [] ∨ ∃ b off, a = some ⟨b, off, none⟩ ∧ b < w.heap.size ∧ ∀ i (h : i < g.length), w.cell? ⟨b, off + i * 2, none⟩ = some (.string g[i].1) ∧ w.cell? ⟨b, off + i * 2 + 1, none⟩ = some (.string g[i].2))

theorem Holds.grown {w w' : World} {v : Value} {g : Pairs} (h : Holds w v g) {B : Nat} (hb : Below B w w') (hB : w.heap.size ≤ B) : Holds w' v g := by
  obtain ⟨a, c, hv, hc, hm, hn, h⟩ := h
  refine ⟨a, c, hv, hc, hm, hn, h.imp id ?_⟩
  rintro ⟨b, off, ha, hlt, hcell⟩
  exact ⟨b, off, ha, by have := hb.size; omega, fun i hi => ⟨(hb.cell (p := ⟨b, _, none⟩) (by show b < B; omega)).trans (hcell i hi).1, (hb.cell (p := ⟨b, _, none⟩) (by show b < B; omega)).trans (hcell i hi).2⟩⟩

theorem Holds.form {w : World} {v : Value} {g : Pairs} (h : Holds w v g) : ∃ a c, v = .slice a g.length c := by
  obtain ⟨a, c, hv, _⟩ := h
  exact ⟨a, c, hv⟩

theorem Holds.open {w : World} {a : Option Addr} {c : Nat} {g : Pairs} (h : Holds w (.slice a g.length c) g) (h0 : 0 < g.length) : ∃ b off, a = some ⟨b, off, none⟩ ∧ b < w.heap.size ∧ ∀ i (h : i < g.length), w.cell? ⟨b, off + i * 2, none⟩ = some (.string g[i].1) ∧ w.cell? ⟨b, off + i * 2 + 1, none⟩ = some (.string g[i].2) := by
  obtain ⟨a', c', hv, _, _, _, h⟩ := h
  simp only [Value.slice.injEq] at hv
  obtain ⟨rfl, _, rfl⟩ := hv
  rcases h with rfl | h
  · simp at h0
  · exact h

theorem Holds.len {w : World} {v : Value} {g : Pairs} (h : Holds w v g) : g.length ≤ 9223372036854775807 := by
  obtain ⟨a, c, hv, hc, hm, _⟩ := h
  unfold maxLen at hm; omega

theorem Holds.nil (w : World) : Holds w (.slice none 0 0) [] := ⟨none, 0, rfl, Nat.le_refl _, by decide, fun _ => rfl, .inl rfl⟩

def weight (g : Pairs) : Nat := (g.map fun p => 1 + p.1.size + p.2.size).sum
theorem weight_take {g : Pairs} {k : Nat} (h : k < g.length) : weight (g.take (k + 1)) = weight (g.take k) + 1 + g[k].1.size + g[k].2.size := by
  unfold weight
  rw [List.take_succ_eq_append_getElem h, List.map_append, List.sum_append]
  simp; omega

theorem weight_le (g : Pairs) (k : Nat) : weight (g.take k) ≤ weight g := by
  have e : weight (g.take k) + weight (g.drop k) = weight g := by
    unfold weight
    rw [← List.sum_append, ← List.map_append, List.take_append_drop]
  omega

theorem weight_one {g : Pairs} {p : ByteArray × ByteArray} (h : p ∈ g) : 1 + p.1.size + p.2.size ≤ weight g := by
  induction g with
  | nil => simp at h
  | cons q g ih =>
    have e : weight (q :: g) = 1 + q.1.size + q.2.size + weight g := by simp [weight]
    rcases List.mem_cons.1 h with rfl | h
    · omega
    · have := ih h; omega

theorem weight_len (g : Pairs) : g.length ≤ weight g := by
  induction g with
  | nil => simp
  | cons q g ih =>
    have e : weight (q :: g) = 1 + q.1.size + q.2.size + weight g := by simp [weight]
    rw [List.length_cons]; omega

theorem cells_pair : Tryz.prog.cellsOf 49 = 2 := by kernel_rfl

theorem weightsAll_mem {H : Type} {P : Program} {e : TypeId} : ∀ {l : List (DataW H)} {d : DataW H}, d ∈ l → ∀ n ∈ d.weights P e, n ∈ DataW.weightsAll P e l
  | d' :: r, d, hd, n, hn => by
    simp only [DataW.weightsAll, List.mem_append]
    rcases List.mem_cons.1 hd with rfl | h
    · exact .inl hn
    · exact .inr (weightsAll_mem h n hn)

/-- An argument that is a row of pairs, opened; each text weighs. -/
theorem open_pairs {H : Type} {enc : TypeId × Value → H} {w : World} {a : Option Addr} {len cap : Nat} {d : DataW H} {p : List MemPlace} (h : DataW.Trod enc Tryz.prog w 0 (fun _ => true) true 42 (.slice a len cap) d p) :
    ∃ g : Pairs, Holds w (.slice a len cap) g ∧ ∀ q ∈ g, q.1.size ∈ d.weights Tryz.prog 42 ∧ q.2.size ∈ d.weights Tryz.prog 42 := by
  obtain ⟨fuel, hf⟩ := h
  have hf' : DataW.trod enc Tryz.prog w 0 (fun _ => true) true fuel 42 [.slice a len cap] = some (d, p) := by simpa [Value.cells] using hf
  rcases Go.Deep.open_slice_pairs Tryz.underlying42 Tryz.underlying49 cells_pair rfl rfl (by kernel_rfl) (by kernel_rfl) hf' with ⟨h0, _⟩ | ⟨a', len', cap', m, n, V0, V1, D0, D1, P0, P1, hcs, _, hl, hmx, hm, hd, hc⟩
  · simp at h0
    obtain ⟨rfl, rfl, rfl⟩ := h0
    exact ⟨[], Holds.nil w, by simp⟩
  · simp only [List.cons.injEq, Value.slice.injEq, and_true] at hcs
    obtain ⟨rfl, rfl, rfl⟩ := hcs
    simp only [Prod.mk.injEq] at hd
    obtain ⟨rfl, _⟩ := hd
    have hlm : len ≤ m := by rw [hm]; simp; exact hl
    have hv : ∀ i, i < len → ∃ q : ByteArray × ByteArray, V0 i = .string q.1 ∧ V1 i = .string q.2 ∧ D0 i = .lit (.string q.1.data.toList) ∧ D1 i = .lit (.string q.2.data.toList) := by
      intro i hi
      obtain ⟨_, _, h2, h3⟩ := hc i (by omega)
      obtain ⟨s, e0, ep, _⟩ := DataW.trod_string Tryz.underlying9 h2
      obtain ⟨t, e1, eq, _⟩ := DataW.trod_string Tryz.underlying9 h3
      simp at e0 e1
      simp only [Prod.mk.injEq] at ep eq
      exact ⟨(s, t), e0, e1, ep.1, eq.1⟩
    let F : Nat → ByteArray × ByteArray := fun i => if hi : i < len then Classical.choose (hv i hi) else ({ data := #[] }, { data := #[] })
    have hF : ∀ i, i < len → V0 i = .string (F i).1 ∧ V1 i = .string (F i).2 ∧ D0 i = .lit (.string (F i).1.data.toList) ∧ D1 i = .lit (.string (F i).2.data.toList) := fun i hi => by
      have := Classical.choose_spec (hv i hi)
      simpa only [F, dif_pos hi] using this
    have hlen : ((List.range len).map F).length = len := by simp
    refine ⟨(List.range len).map F, ?_, ?_⟩
    · refine ⟨some a', cap, by rw [hlen], by rw [hlen]; exact hl, hmx, by simp, ?_⟩
      by_cases h0 : len = 0
      · left; subst h0; rfl
      right
      obtain ⟨b, off, spot⟩ := a'
      have hs0 := (hc 0 (by omega)).1
      have hspot : spot = none := by simpa [Addr.add] using World.cell?_spot hs0
      subst hspot
      refine ⟨b, off, rfl, ?_, fun i hi => ?_⟩
      · exact World.block_lt_of_cell? w ((⟨b, off, none⟩ : Addr).add (0 * 2)) hs0
      · rw [hlen] at hi
        obtain ⟨h1, h2, _, _⟩ := hc i (by omega)
        rw [Go.WideShapes.add_plain] at h1 h2
        obtain ⟨e1, e2, _, _⟩ := hF i hi
        rw [e1] at h1
        rw [e2] at h2
        simp only [List.getElem_map, List.getElem_range]
        exact ⟨h1, by rw [Nat.add_assoc]; exact h2⟩
    · intro q hq
      obtain ⟨i, hi, rfl⟩ := List.mem_map.1 hq
      have hi' : i < len := List.mem_range.1 hi
      obtain ⟨_, _, e3, e4⟩ := hF i hi'
      have hmem : DataW.agg [D0 i, D1 i] ∈ (List.range len).map fun i => DataW.agg (H := H) [D0 i, D1 i] := List.mem_map.2 ⟨i, hi, rfl⟩
      simp only [DataW.weights, Tryz.underlying42, List.mem_cons, List.mem_append]
      refine ⟨.inr (.inl (weightsAll_mem hmem _ ?_)), .inr (.inl (weightsAll_mem hmem _ ?_))⟩
      · simp [DataW.weights, Tryz.underlying49, DataW.weightsEach, e3, e4]
      · simp [DataW.weights, Tryz.underlying49, DataW.weightsEach, e3, e4]

def rsum (T : List Bs) : Nat := (T.map fun t => t.length + 1).sum
theorem rsum_next {T : List Bs} {j : Nat} (h : j < T.length) : rsum (T.take (j + 1)) = rsum (T.take j) + (T[j].length + 1) := by
  unfold rsum
  rw [List.take_succ_eq_append_getElem h, List.map_append, List.sum_append]
  rfl
theorem rsum_split (T : List Bs) (j : Nat) : rsum T = rsum (T.take j) + rsum (T.drop j) := by
  unfold rsum
  rw [← List.sum_append, ← List.map_append, List.take_append_drop]

end Go.Proofs.YtpijolcklmdjbaaGreatDoor

namespace Go.Proofs.YtpijolcklmdjbaaGreatDoor
open Go.RowKit Go.Lib Go.WideShapes

def rowM (nm : Bs) : List Bs → List Mg
  | [] => []
  | v :: _ => [⟨84, [nm], [1]⟩, ⟨68, [v], [1, (v.length : Int)]⟩]
/-- What is told between what is reported and the status. -/
def outM (nm : Bs) (err : Int) (tag : Bs) (Row : List Bs) : List Mg :=
  if err = 0 then rowM nm Row ++ [if tag = [] then ⟨73, [], []⟩ else ⟨67, [tag], []⟩] else [⟨69, [g_error, Lib.itoa err], [2, 83, 67]⟩]
theorem out_ne (nm : Bs) (err : Int) (tag : Bs) (Row : List Bs) : outM nm err tag Row ≠ [] := by
  unfold outM
  split
  · simp
  · simp
theorem out_le (nm : Bs) (err : Int) (tag : Bs) (Row : List Bs) : (outM nm err tag Row).length ≤ 3 := by
  unfold outM
  split
  · cases Row <;> simp [rowM]
  · simp
def sM (g : Pairs) : List Mg := g.map fun p => ⟨83, [bytes p.1, bytes p.2], []⟩
theorem sM_snoc {g : Pairs} {k : Nat} (h : k < g.length) : sM (g.take (k + 1)) = sM (g.take k) ++ [⟨83, [bytes g[k].1, bytes g[k].2], []⟩] := by
  unfold sM
  rw [List.take_succ_eq_append_getElem h, List.map_append]; rfl
def ansM (g : Pairs) (nm : Bs) (err : Int) (tag : Bs) (Row : List Bs) (st : Int) : List Mg := (sM g ++ outM nm err tag Row) ++ [⟨90, [], [st]⟩]

theorem itoa_len {n : Int} (h0 : 0 ≤ n) (h9 : n ≤ 9223372036854775807) : (Lib.itoa n).length ≤ 21 := by
  unfold Lib.itoa
  rw [if_neg (by omega)]
  rw [Lib.decDigits_length]
  have := Lib.nDigits_le20 n.toNat (by omega)
  omega
theorem room_one (t : Bs) (N : List Int) : room ⟨[t], N, []⟩ = t.length + 19 + 4 * N.length := by unfold room; simp
theorem room_two (t u : Bs) (N : List Int) : room ⟨[t, u], N, []⟩ = t.length + 19 + (u.length + 19) + 4 * N.length := by unfold room; simp
theorem room_nil (N : List Int) : room ⟨[], N, []⟩ = 4 * N.length := by unfold room; simp
theorem ans_room {g : Pairs} {nm tag : Bs} {err st : Int} {Row : List Bs} (hg : ∀ p ∈ g, p.1.size ≤ 3000 ∧ p.2.size ≤ 3000) (hn : nm.length ≤ 3000) (ht : tag.length ≤ 3000) (h0 : 0 ≤ err) (h9 : err ≤ 9223372036854775807) (hR : ∀ t ∈ Row, t.length ≤ 3000) : ∀ x ∈ ansM g nm err tag Row st, room ⟨x.T, x.N, []⟩ ≤ 800000 := by
  intro x hx
  unfold ansM at hx
  rcases List.mem_append.1 hx with hx | hx
  · rcases List.mem_append.1 hx with hx | hx
    · obtain ⟨p, hp, rfl⟩ := List.mem_map.1 hx
      have := hg p hp
      rw [room_two, bytes_len, bytes_len]; simp; omega
    · unfold outM at hx
      split at hx
      · rcases List.mem_append.1 hx with hx | hx
        · cases Row with
          | nil => cases hx
          | cons v r =>
            have hv := hR v List.mem_cons_self
            simp only [rowM, List.mem_cons, List.not_mem_nil, or_false] at hx
            rcases hx with rfl | rfl
            · rw [room_one]; simp; omega
            · rw [room_one]; simp; omega
        · rw [List.mem_singleton] at hx
          subst hx
          split
          · rw [room_nil]; simp
          · rw [room_one]; simp; omega
      · rw [List.mem_singleton] at hx
        subst hx
        have := itoa_len h0 h9
        rw [room_two]; simp; omega
  · rw [List.mem_singleton] at hx
    subst hx
    rw [room_nil]; simp
/-- The cells of a message, whose rows lie where Q says. -/
def MsgAtQ (w : World) (Q : Nat → Prop) (ys : List Value) (i : Nat) (x : Mg) : Prop := ∃ a n c b m d, ys[i * 3]? = some (.int .u8 (x.c.toNat : Nat)) ∧ ys[i * 3 + 1]? = some (.slice a n c) ∧ ys[i * 3 + 2]? = some (.slice b m d) ∧ TextsIn w (.slice a n c) x.T ∧ NumsIn w (.slice b m d) x.N ∧ (x.T ≠ [] → ∀ g off, a = some ⟨g, off, none⟩ → Q g) ∧ (x.N ≠ [] → ∀ g off, b = some ⟨g, off, none⟩ → Q g)
theorem MsgAtQ.to {w : World} {Q : Nat → Prop} {ys : List Value} {i : Nat} {x : Mg} (h : MsgAtQ w Q ys i x) {v : Value} (hq : ∀ g, Q g → some g ≠ v.ownBlock) : MsgAt w v ys i x := by
  obtain ⟨a, n, c, b, m, d, h1, h2, h3, h4, h5, h6, h7⟩ := h
  exact ⟨a, n, c, b, m, d, h1, h2, h3, h4, h5, fun h0 g off e => hq g (h6 h0 g off e), fun h0 g off e => hq g (h7 h0 g off e)⟩
abbrev cmdV (k : Int) (nm vl : ByteArray) : Value := .agg #[.int .u8 k, .string nm, .string vl]
abbrev repV (err : Int) (tag : ByteArray) (a : Option Addr) (n c : Nat) : Value := .agg #[.int .i64 err, .string tag, .slice a n c]
/-- Itoa's table. -/
abbrev U10 (w : World) : Prop := Lib.TabIs Tryz.prog w "internal/strconv.uint64pow10" .u64 Lib.pow10Tab
/-- What outcome answers, for rows of at most one text. -/
def OutOk : Prop := ∀ (w : World) (k : Int) (nm vl : ByteArray) (err : Int) (tag : ByteArray) (a : Option Addr) (n c : Nat) (Row : List Bs), Row.length = n → n ≤ 1 → TextsIn w (.slice a n c) Row → 0 ≤ err → err ≤ 9223372036854775807 → (∀ t ∈ Row, t.length ≤ 1000000) → U10 w →
  Calls Tryz.prog 24 #[cmdV k nm vl, repV err tag a n c] w fun e w' => ∃ v xs, e = .returned v ∧ w'.ownsRow w.heap.size 39 3 v (outM (bytes nm) err (bytes tag) Row).length xs ∧ (∀ i x, (outM (bytes nm) err (bytes tag) Row)[i]? = some x → MsgAtQ w' (fun g => (Row ≠ [] ∧ ∃ off, a = some ⟨g, off, none⟩) ∨ w.heap.size ≤ g) xs i x) ∧ Below w.heap.size w w'
theorem one_cells {xs : List Value} (h : ∀ i, i < xs.length → ∃ t, xs[i]? = some t ∧ t.oneCell' = true) : ∀ u ∈ xs, u.oneCell' = true := by
  intro u hu
  obtain ⟨i, hi, rfl⟩ := List.mem_iff_getElem.1 hu
  obtain ⟨t, h1, h2⟩ := h i hi
  rw [List.getElem?_eq_getElem hi] at h1
  rw [Option.some.inj h1]; exact h2
/-- The cells of a row of messages are each one cell. -/
theorem msgs_one {w : World} {Q : Nat → Prop} {xs : List Value} {M : List Mg} (hl : xs.length = M.length * 3) (h : ∀ i x, M[i]? = some x → MsgAtQ w Q xs i x) : ∀ u ∈ xs, u.oneCell' = true := by
  refine one_cells fun i hi => ?_
  have hq : i / 3 < M.length := by omega
  obtain ⟨a, n, c, b, m, d, h1, h2, h3, _⟩ := h (i / 3) _ (List.getElem?_eq_getElem hq)
  rcases (by omega : i = i / 3 * 3 ∨ i = i / 3 * 3 + 1 ∨ i = i / 3 * 3 + 2) with e | e | e
  · rw [e]; exact ⟨_, h1, rfl⟩
  · rw [e]; exact ⟨_, h2, rfl⟩
  · rw [e]; exact ⟨_, h3, rfl⟩
end Go.Proofs.YtpijolcklmdjbaaGreatDoor

namespace Go.Proofs.YtpijolcklmdjbaaGreatDoor
open Go.RowKit Go.Lib Go.WideShapes

theorem three_cells (w : World) (a b c : Value) (T : TypeId) : ∀ j u, [a, b, c][j]? = some u → (w.alloc (.cells #[a, b, c] T)).cell? ((⟨w.heap.size, 0, none⟩ : Addr).add j) = some u := by
  intro j u hj
  match j, hj with
  | 0, hj => simp at hj; subst hj; simp [Addr.add, go_sem]
  | 1, hj => simp at hj; subst hj; simp [Addr.add, go_sem]
  | 2, hj => simp at hj; subst hj; simp [Addr.add, go_sem]
  | n + 3, hj => simp at hj
set_option maxRecDepth 100000 in
set_option maxHeartbeats 16000000 in
theorem answer_any (hOut : OutOk) (w : World) (lv : Value) (G : Pairs) (k : Int) (nm vl : ByteArray) (err : Int) (tag : ByteArray) (a : Option Addr) (n c : Nat) (Row : List Bs) (st : UInt8)
    (hG : Holds w lv G) (hR : Row.length = n) (hn : n ≤ 1) (hT : TextsIn w (.slice a n c) Row) (he0 : 0 ≤ err) (he9 : err ≤ 9223372036854775807) (hRz : ∀ t ∈ Row, t.length ≤ 3000) (hU : U10 w) (hUS : ∀ w w' : World, U10 w → Below w.heap.size w w' → U10 w')
    (hGz : G.length ≤ 3000 ∧ ∀ p ∈ G, p.1.size ≤ 3000 ∧ p.2.size ≤ 3000) (hnm : nm.size ≤ 3000) (htag : tag.size ≤ 3000) :
    Calls Tryz.prog 14 #[lv, cmdV k nm vl, repV err tag a n c, .int .u8 (st.toNat : Nat)] w fun e w' => e = .returned (.tuple #[.string (togS (ansM G (bytes nm) err (bytes tag) Row (st.toNat : Nat))), .int .i64 (togE (ansM G (bytes nm) err (bytes tag) Row (st.toNat : Nat)))]) ∧ Below w.heap.size w w' := by
  obtain ⟨im, him, z0, z1, z2⟩ := info_parts info_msg
  obtain ⟨la, lc, rfl⟩ := hG.form
  have hglen := hG.len
  have HGZ := Lib.hid hGz
  have hg3 : G.length ≤ 3000 := hGz.1
  have HG := Lib.hid hG
  have HR := Lib.hid hR
  have HTX := Lib.hid hT
  have HU := Lib.hid hU; have HUS := Lib.hid hUS
  have HRZ := Lib.hid hRz
  have HOUT := Lib.hid (fun W (hb : Below w.heap.size w W) => hOut W k nm vl err tag a n c Row hR hn (hT.mono hb) he0 he9 (fun t ht => Nat.le_trans (hRz t ht) (by omega)) (hUS _ _ hU hb))
  have HRM := Lib.hid (ans_room (g := G) (nm := bytes nm) (tag := bytes tag) (err := err) (st := (st.toNat : Nat)) (Row := Row) hGz.2 (by rw [bytes_len]; exact hnm) (by rw [bytes_len]; exact htag) he0 he9 hRz)
  have hMl := out_le (bytes nm) err (bytes tag) Row
  have hMn := out_ne (bytes nm) err (bytes tag) Row
  have hst : (st.toNat : Int) < 256 := by have := UInt8.toNat_lt st; omega
  unfold ansM at HRM ⊢
  generalize outM (bytes nm) err (bytes tag) Row = M at HOUT HRM hMl hMn ⊢
  obtain ⟨TS, hTS⟩ : ∃ x, x = togS ((sM G ++ M) ++ [⟨90, [], [((st.toNat : Nat) : Int)]⟩]) := ⟨_, rfl⟩
  obtain ⟨TE, hTE⟩ : ∃ x, x = togE ((sM G ++ M) ++ [⟨90, [], [((st.toNat : Nat) : Int)]⟩]) := ⟨_, rfl⟩
  rw [← hTS, ← hTE]
  have HTS := Lib.hid hTS; have HTE := Lib.hid hTE
  clear hTS hTE
  have HML := Lib.hid hMl; have HMN := Lib.hid hMn
  clear hMl hMn
  obtain ⟨W0, hW0⟩ : ∃ x, x = ((w.alloc (.cells #[.int .u8 k, .string nm, .string vl] 23)).alloc (.cells #[.int .i64 err, .string tag, .slice a n c] 44)) := ⟨_, rfl⟩
  have hsz : W0.heap.size = w.heap.size + 1 + 1 := by rw [hW0]; simp
  have HB := Lib.hid (show Below w.heap.size w W0 by rw [hW0]; exact ((Below.refl _ _).alloc (Nat.le_refl _) _).alloc (by simp) _)
  have HK := Lib.hid (show ∀ W, Below W0.heap.size W0 W → W.cell? ⟨w.heap.size, 0, none⟩ = some (.int .u8 k) ∧ W.cell? ⟨w.heap.size, 1, none⟩ = some (.string nm) ∧ W.cell? ⟨w.heap.size, 2, none⟩ = some (.string vl) ∧ W.cell? ⟨w.heap.size + 1, 0, none⟩ = some (.int .i64 err) ∧ W.cell? ⟨w.heap.size + 1, 1, none⟩ = some (.string tag) ∧ W.cell? ⟨w.heap.size + 1, 2, none⟩ = some (.slice a n c) from by
    intro W hW
    have k : ∀ q i, q < W0.heap.size → W.cell? ⟨q, i, none⟩ = W0.cell? ⟨q, i, none⟩ := fun q i h => hW.cell (p := ⟨q, i, none⟩) h
    refine ⟨(k _ _ (by omega)).trans ?_, (k _ _ (by omega)).trans ?_, (k _ _ (by omega)).trans ?_, (k _ _ (by omega)).trans ?_, (k _ _ (by omega)).trans ?_, (k _ _ (by omega)).trans ?_⟩ <;> (rw [hW0]; simp [go_sem]))
  have HE := Lib.hid hW0
  have HSZ := Lib.hid hsz
  clear hW0 hsz hG hR hT hU hUS hRz hGz
  go_enter Tryz.func14, Tryz.ntmps14
  go_wp2_with fail
  rw [← HE.out]
  go_loopw [10, 15] (fun tv i wr => ∃ j : Nat, j ≤ G.length ∧ i = .int .i64 j ∧ ToldG W0.heap.size wr tv (sM (G.take j)) ∧ Below W0.heap.size W0 wr) (fun _ i _ => G.length - (RowKit.intOf i).toNat)
  case atStart => exact ⟨0, Nat.zero_le _, rfl, ToldG.nil _ _, Below.refl _ _⟩
  case round =>
    obtain ⟨j, hj, rfl, hTo, hb⟩ := hrel
    have HTO := Lib.hid hTo; have HBB := Lib.hid hb
    have HBW := Lib.hid (HB.out.step hb HB.out.size)
    clear hb
    obtain ⟨ta, tc, rfl, htc⟩ := hTo.form
    clear hTo
    have hsl : (sM (G.take j)).length = j := by unfold sM; rw [List.length_map, List.length_take]; omega
    rw [hsl] at htc ⊢
    have HSL := Lib.hid hsl
    by_cases hlt : j < G.length
    · have hlt' : (j : Int) < G.length := by omega
      obtain ⟨b, off, rfl, hbl, hc⟩ := HG.out.open (by omega)
      have c0 := (HBW.out.cell (p := ⟨b, off + j * 2, none⟩) hbl).trans (hc j hlt).1
      have c1 := (HBW.out.cell (p := ⟨b, off + j * 2 + 1, none⟩) hbl).trans (hc j hlt).2
      have HNX := Lib.hid (sM_snoc hlt)
      have hzz := HGZ.out.2 _ (List.getElem_mem hlt)
      obtain ⟨x, hx⟩ : ∃ x, x = G[j].1 := ⟨_, rfl⟩
      obtain ⟨y, hy⟩ : ∃ y, y = G[j].2 := ⟨_, rfl⟩
      rw [← hx] at c0 hzz; rw [← hy] at c1 hzz
      rw [← hx, ← hy] at HNX
      clear hc hx hy hsl
      obtain ⟨xs, hown, hall⟩ := HTO.out
      rw [HSL.out] at hown hall
      have HALL := Lib.hid hall
      have hxl := hown.1
      have HOWN := Lib.hid hown
      have HXL := Lib.hid hxl
      clear hown hall hxl
      obtain ⟨W1, hW1⟩ : ∃ W1, W1 = (wr.alloc (.cells #[.string x, .string y] 49)).alloc (.cells #[.string x, .string y] 9) := ⟨_, rfl⟩
      have hz1 : W1.heap.size = wr.heap.size + 1 + 1 := by rw [hW1]; simp
      have hbw1 : Below wr.heap.size wr W1 := by rw [hW1]; exact ((Below.refl _ _).alloc (Nat.le_refl _) _).alloc (by simp) _
      have hTW1 : TextsIn W1 (.slice (some ⟨wr.heap.size + 1, 0, none⟩) 2 2) [bytes x, bytes y] := by
        refine ⟨_, 2, 2, rfl, rfl, Nat.le_refl _, by omega, .inr ⟨_, 0, rfl, by omega, fun i t ht => ?_⟩⟩
        match i, ht with
        | 0, ht => obtain rfl := Option.some.inj ht; rw [hW1]; simp [go_sem, bytes]
        | 1, ht => obtain rfl := Option.some.inj ht; rw [hW1]; simp [go_sem, bytes]
      have HTW1 := Lib.hid hTW1; have HBW1 := Lib.hid hbw1; have HZ1 := Lib.hid hz1
      have HW1 := Lib.hid hW1
      clear hW1 hz1 hbw1 hTW1
      go_wp2_with (at_builtin; rw [← HW1.out]; refine wpList_append_at _ rfl (.tmp 19) (.tmp 26) 64 rfl W0.heap.size 39 im (.agg #[.int .u8 0, .slice none 0 0, .slice none 0 0]) 3 56 Tryz.underlying64 him z0 z1 z2 rfl (by decide) (.slice ta j tc) j xs rfl ((HOWN.out.kept (grow_below HBW1.out none) (by cases (Value.slice ta j tc).ownBlock <;> simp)).alloc _) ⟨wr.heap.size + 1 + 1, 0, none⟩ 1 1 [.int .u8 83, .slice (some ⟨wr.heap.size + 1, 0, none⟩) 2 2, .slice none 0 0] rfl rfl (by rw [← HZ1.out]; exact three_cells _ _ _ _ _) (by simp [Value.oneCell']) (by unfold maxLen; omega) (by omega) (by rw [World.size_alloc, HZ1.out]; have := HBB.out.size; omega) ?_)
      intro v3 w3 hO3 hg3 hf3
      have hlt9 := HOWN.out.lt
      have HB3 := Lib.hid (show Below W0.heap.size W0 w3 from ((HBB.out.step HBW1.out HBB.out.size).alloc (Nat.le_trans HBB.out.size HBW1.out.size) _).grown hg3 (by rw [World.size_alloc]; have := HBB.out.size; have := HBW1.out.size; omega) (fun k hk => (hlt9 k hk).1))
      have HT3 := Lib.hid (show ToldG W0.heap.size w3 v3 (sM (G.take (j + 1))) from by
        refine ⟨_, by rw [HNX.out, List.length_append, HSL.out]; exact hO3, ?_⟩
        rw [HNX.out]
        refine told_grown (by rw [HSL.out]; exact HXL.out) (fun i x hx => (HALL.out i x hx).mono ((HBW1.out).alloc HBW1.out.size _)) (fun i x' hx => ?_) hg3 (fun k hk => (hf3 k hk).imp id (fun h => by rw [World.size_alloc]; exact h))
        match i, hx with
        | 0, hx =>
          obtain rfl := Option.some.inj hx
          exact ⟨_, 2, 2, none, 0, 0, rfl, rfl, rfl, HTW1.out.mono ((Below.refl _ _).alloc (Nat.le_refl _) _), ⟨none, 0, 0, rfl, rfl, Nat.le_refl _, by omega, .inl rfl⟩, fun _ g off e => by
            cases e
            intro e
            have := (hlt9 _ e.symm).2
            omega, fun h => absurd rfl h⟩)
      clear hO3 hg3 hf3 hlt9 c0 c1 hzz
      obtain ⟨ta3, tc3, rfl, htc3⟩ := HT3.out.form
      go_wp2_with fail
      go_roundw
      case measure => first | omega | (simp [RowKit.intOf]; omega)
      case rel => exact ⟨j + 1, by omega, by go_num, HT3.out, HB3.out⟩
    · obtain rfl : j = G.length := by omega
      have HTO := Lib.hid (show ToldG W0.heap.size wr (.slice ta G.length tc) (sM G) by have := HTO.out; have hh := HSL.out; rw [List.take_length] at this hh; rw [hh] at this; exact this)
      clear hlt hsl
      obtain ⟨k0, k1, k2, l0, l1, l2⟩ := HK.out wr HBB.out
      go_wp2_with fail
      refine (HOUT.out wr HBW.out).mono ?_; rintro e w2 ⟨v2, xs2, rfl, hO2, hM2, hb2⟩
      have hsG : (sM G).length = G.length := by unfold sM; rw [List.length_map]
      obtain ⟨g2, cap2, rfl, hnc2⟩ : ∃ g2 cap2, v2 = .slice (some ⟨g2, 0, none⟩) M.length cap2 ∧ M.length ≤ cap2 := by
        rcases hO2.2 with ⟨_, h0⟩ | ⟨g2, cap2, cur2, h1, _, _, h3, _⟩
        · exact absurd (List.eq_nil_of_length_eq_zero h0) HMN.out
        · exact ⟨g2, cap2, h1, h3⟩
      have HC2 := Lib.hid (hO2.cells (g := g2) rfl)
      have HONE := Lib.hid (msgs_one hO2.1 hM2)
      have HXL2 := Lib.hid hO2.1
      have HM2 := Lib.hid hM2
      obtain ⟨xs, hown, hall⟩ := HTO.out
      rw [hsG] at hown
      have HOWN := Lib.hid hown
      have HALL := Lib.hid hall
      have HB2 := Lib.hid hb2
      have HSG := Lib.hid hsG
      have hml := HML.out
      clear hown hall hO2 hM2 hb2 hsG k0 k1 k2 l0 l1 l2
      go_wp2_with (at_builtin; refine wpList_append_at _ rfl (.tmp 29) (.tmp 32) 64 rfl W0.heap.size 39 im (.agg #[.int .u8 0, .slice none 0 0, .slice none 0 0]) 3 56 Tryz.underlying64 him z0 z1 z2 rfl (by decide) (.slice ta G.length tc) G.length xs rfl (HOWN.out.kept (grow_below HB2.out none) (by cases (Value.slice ta G.length tc).ownBlock <;> simp)) ⟨g2, 0, none⟩ M.length cap2 xs2 rfl HXL2.out HC2.out HONE.out (by unfold maxLen; omega) (by omega) (Nat.le_trans HBB.out.size HB2.out.size) ?_)
      intro v3 w3 hO3 hg3 hf3
      have hlt9 := HOWN.out.lt
      have HB3 := Lib.hid (show Below W0.heap.size W0 w3 from (HBB.out.step HB2.out HBB.out.size).grown hg3 (Nat.le_trans HBB.out.size HB2.out.size) (fun k hk => (hlt9 k hk).1))
      have HT3 := Lib.hid (show ToldG W0.heap.size w3 v3 (sM G ++ M) from ⟨_, by rw [List.length_append, HSG.out]; exact hO3, told_grown (by rw [HSG.out]; exact HOWN.out.1) (fun i x hx => (HALL.out i x hx).mono HB2.out) (fun i x hx => (HM2.out i x hx).to (fun q hq e => by
        have h9 := hlt9 q e.symm
        rcases hq with ⟨hr, off, ha⟩ | hq
        · have := texts_lt HTX.out hr ha
          have := HB.out.size
          omega
        · omega)) hg3 hf3⟩)
      clear hO3 hg3 hf3 hlt9 HC2 HONE HXL2 HM2 HALL HOWN HTO
      obtain ⟨ta3, tc3, rfl, htc3⟩ := HT3.out.form
      have hl3 : (sM G ++ M).length = G.length + M.length := by rw [List.length_append, HSG.out]
      rw [hl3] at HT3 htc3 ⊢
      obtain ⟨xs3, hown3, hall3⟩ := HT3.out
      rw [hl3] at hown3
      have HOWN3 := Lib.hid hown3
      have HALL3 := Lib.hid hall3
      have HL3 := Lib.hid hl3
      clear hown3 hall3 hl3
      obtain ⟨W4, hW4⟩ : ∃ W4, W4 = w3.alloc (.cells #[.int .i64 (st.toNat : Nat)] 3) := ⟨_, rfl⟩
      have hz4 : W4.heap.size = w3.heap.size + 1 := by rw [hW4]; simp
      have hbw4 : Below w3.heap.size w3 W4 := by rw [hW4]; exact (Below.refl _ _).alloc (Nat.le_refl _) _
      have hN4 : NumsIn W4 (.slice (some ⟨w3.heap.size, 0, none⟩) 1 1) [((st.toNat : Nat) : Int)] := by
        refine ⟨_, 1, 1, rfl, rfl, Nat.le_refl _, by omega, .inr ⟨_, 0, rfl, by omega, fun i t ht => ?_⟩⟩
        match i, ht with
        | 0, ht => obtain rfl := Option.some.inj ht; rw [hW4]; simp [go_sem]
      have HN4 := Lib.hid hN4; have HBW4 := Lib.hid hbw4; have HZ4 := Lib.hid hz4
      have HW4 := Lib.hid hW4
      clear hW4 hz4 hbw4 hN4
      have hwr : IntKind.i64.wrap (st.toNat : Int) = (st.toNat : Int) := IntWalk.i64_in _ (by omega)
      go_wp2_with (at_builtin; rw [← HW4.out]; refine wpList_append_at _ rfl (.tmp 34) (.tmp 39) 64 rfl W0.heap.size 39 im (.agg #[.int .u8 0, .slice none 0 0, .slice none 0 0]) 3 56 Tryz.underlying64 him z0 z1 z2 rfl (by decide) (.slice ta3 (G.length + M.length) tc3) (G.length + M.length) xs3 rfl ((HOWN3.out.kept (grow_below HBW4.out none) (by cases (Value.slice ta3 (G.length + M.length) tc3).ownBlock <;> simp)).alloc _) ⟨w3.heap.size + 1, 0, none⟩ 1 1 [.int .u8 90, .slice none 0 0, .slice (some ⟨w3.heap.size, 0, none⟩) 1 1] rfl rfl (by rw [← HZ4.out]; exact three_cells _ _ _ _ _) (by simp [Value.oneCell']) (by unfold maxLen; omega) (by omega) (by rw [World.size_alloc, HZ4.out]; have := HB3.out.size; omega) ?_)
      intro v5 w5 hO5 hg5 hf5
      have hlt9 := HOWN3.out.lt
      have HB5 := Lib.hid (show Below W0.heap.size W0 w5 from ((HB3.out.step HBW4.out HB3.out.size).alloc (Nat.le_trans HB3.out.size HBW4.out.size) _).grown hg5 (by rw [World.size_alloc]; have := HB3.out.size; have := HBW4.out.size; omega) (fun k hk => (hlt9 k hk).1))
      have HT5 := Lib.hid (show ToldG W0.heap.size w5 v5 ((sM G ++ M) ++ [⟨90, [], [((st.toNat : Nat) : Int)]⟩]) from by
        refine ⟨_, by rw [List.length_append, HL3.out]; exact hO5, told_grown (by rw [HL3.out]; exact HOWN3.out.1) (fun i x hx => (HALL3.out i x hx).mono (HBW4.out.alloc HBW4.out.size _)) (fun i x' hx => ?_) hg5 (fun k hk => (hf5 k hk).imp id (fun h => by rw [World.size_alloc]; exact h))⟩
        match i, hx with
        | 0, hx =>
          obtain rfl := Option.some.inj hx
          exact ⟨none, 0, 0, _, 1, 1, rfl, rfl, rfl, ⟨none, 0, 0, rfl, rfl, Nat.le_refl _, by omega, .inl rfl⟩, HN4.out.mono ((Below.refl _ _).alloc (Nat.le_refl _) _), fun h => absurd rfl h, fun _ g off e => by
            cases e
            intro e
            have := (hlt9 _ e.symm).2
            omega⟩)
      clear hO5 hg5 hf5 hlt9 HALL3 HOWN3
      obtain ⟨ta5, tc5, rfl, htc5, hat5⟩ := HT5.out.at
      have hl5 : ((sM G ++ M) ++ [(⟨90, [], [((st.toNat : Nat) : Int)]⟩ : Mg)]).length = G.length + M.length + 1 := by rw [List.length_append, HL3.out]; rfl
      have HTG := Lib.hid (together_any w5 ta5 _ _ tc5 hl5 (by rw [← hl5]; exact htc5) (by omega) hat5 HRM.out)
      rw [hl5]
      clear hl5 HT5
      rw [← HTS.out, ← HTE.out] at HTG
      clear hat5 htc5 hwr
      go_wp2_with fail
      refine HTG.out.mono ?_; rintro e w6 ⟨rfl, hb⟩
      have HB6 := Lib.hid ((HB.out.step HB5.out HB.out.size).step hb (Nat.le_trans HB.out.size HB5.out.size))
      clear hb
      go_wp2_with fail
      go_ret2
      exact ⟨rfl, HB6.out⟩
end Go.Proofs.YtpijolcklmdjbaaGreatDoor

namespace Go.Proofs.YtpijolcklmdjbaaGreatDoor
open Go.RowKit Go.Lib Go.WideShapes

end Go.Proofs.YtpijolcklmdjbaaGreatDoor
