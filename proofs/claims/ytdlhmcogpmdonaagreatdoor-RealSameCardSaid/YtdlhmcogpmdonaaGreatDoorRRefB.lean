/- The document's order of numbers; what is between. -/
import Derived.Test.YtdlhmcogpmdonaaGreatDoorRRefC
import Derived.Test.YtdlhmcogpmdonaaGreatDoorRScaled
namespace Go.Proofs.YtdlhmcogpmdonaaGreatDoor
open Go.RowKit Go.Lib Go.WideShapes

def cS (l : Bs) : Bs := match numB l with
  | some n => canonB n
  | none => []
def cE (l : Bs) : Int := if (numB l).isSome = true then 0 else 9
def zC (l r : Bs) : Int := match numB l, numB r with
  | some n, some m => n.cmp m
  | _, _ => 0
def zE (l r : Bs) : Int := if ((numB l).isSome && (numB r).isSome) = true then 0 else 9
def bB (v a b : Bs) : Bool := ((numB v).isSome && (numB a).isSome && (numB b).isSome) && (decide (0 ≤ zC v a) && decide (zC v b ≤ 0))
def bE (v a b : Bs) : Int := if ((numB v).isSome && (numB a).isSome && (numB b).isSome) = true then 0 else 9
theorem canonV_eq (l : Bs) : canonV l = .tuple #[.string ⟨(cS l).toArray⟩, .int .i64 (cE l)] := by
  unfold canonV cS cE
  cases numB l <;> rfl
theorem cmpV_eq (l r : Bs) : cmpV l r = .tuple #[.int .i64 (zC l r), .int .i64 (zE l r)] := by
  unfold cmpV zC zE
  cases numB l <;> cases numB r <;> rfl
theorem cmp_range (n m : Num) : -1 ≤ n.cmp m ∧ n.cmp m ≤ 1 := by
  unfold Num.cmp
  split
  · decide
  · split <;> decide
theorem zC_range (l r : Bs) : -1 ≤ zC l r ∧ zC l r ≤ 1 := by
  unfold zC
  cases numB l <;> cases numB r <;> first | exact cmp_range _ _ | exact ⟨show (-1 : Int) ≤ 0 by decide, show (0 : Int) ≤ 1 by decide⟩
theorem cmpV_left {l : Bs} (r : Bs) (h : numB l = none) : cmpV l r = .tuple #[.int .i64 0, .int .i64 9] := by
  unfold cmpV; rw [h]
theorem cmpV_right (l : Bs) {r : Bs} (h : numB r = none) : cmpV l r = .tuple #[.int .i64 0, .int .i64 9] := by
  unfold cmpV; rw [h]; cases numB l <;> rfl
theorem cmpV_both {l r : Bs} {n m : Num} (h : numB l = some n) (h' : numB r = some m) : cmpV l r = .tuple #[.int .i64 (n.cmp m), .int .i64 0] := by
  unfold cmpV; rw [h, h']
def betV (v a b : Bs) : Value := .tuple #[.bool (bB v a b), .int .i64 (bE v a b)]
theorem canon_at (s : ByteArray) (w : World) (hT : Tabs w) (hw : 1 ≤ w.heap.size) (hs : s.size ≤ 1000000) :
    Calls Tryz.prog 11 #[.string s] w fun e w' => e = .returned (.tuple #[.string ⟨(cS (bytes s)).toArray⟩, .int .i64 (cE (bytes s))]) ∧ Below w.heap.size w w' := by
  rw [← canonV_eq]; exact canon_any s w hT hw hs
theorem cmp_at (s t : ByteArray) (w : World) (hT : Tabs w) (hs : s.size ≤ 1000000) (ht : t.size ≤ 1000000) :
    Calls Tryz.prog 13 #[.string s, .string t] w fun e w' => e = .returned (.tuple #[.int .i64 (zC (bytes s) (bytes t)), .int .i64 (zE (bytes s) (bytes t))]) ∧ Below w.heap.size w w' := by
  rw [← cmpV_eq]; exact cmp_any s t w hT hs ht
theorem rcanon_at (s : ByteArray) (w : World) (hs : s.size ≤ 1000000) :
    Calls Tryz.prog 12 #[.string s] w fun e w' => e = .returned (.tuple #[.string ⟨(cS (bytes s)).toArray⟩, .int .i64 (cE (bytes s))]) ∧ Below w.heap.size w w' := by
  rw [← canonV_eq]; exact rcanon_any s w hs

set_option maxHeartbeats 4000000 in
theorem between_at (v a b : ByteArray) (w : World) (hT : Tabs w) (hv : v.size ≤ 1000000) (ha : a.size ≤ 1000000) (hb : b.size ≤ 1000000) :
    Calls Tryz.prog 15 #[.string v, .string a, .string b] w fun e w' => e = .returned (.tuple #[.bool (bB (bytes v) (bytes a) (bytes b)), .int .i64 (bE (bytes v) (bytes a) (bytes b))]) ∧ Below w.heap.size w w' := by
  have HCa := Lib.hid (cmp_at v a w hT hv ha)
  have HCb := Lib.hid (fun W hT => cmp_at v b W hT hv hb)
  have HT := Lib.hid hT
  have hr1 := zC_range (bytes v) (bytes a)
  have hr2 := zC_range (bytes v) (bytes b)
  unfold bB bE
  unfold zE at HCa HCb
  generalize zC (bytes v) (bytes a) = p at HCa hr1 ⊢
  generalize zC (bytes v) (bytes b) = q at HCb hr2 ⊢
  generalize (numB (bytes v)).isSome = nv at HCa HCb ⊢
  generalize (numB (bytes a)).isSome = na at HCa ⊢
  generalize (numB (bytes b)).isSome = nb at HCb ⊢
  obtain ⟨ea, hea⟩ : ∃ e : Int, e = (if (nv && na) = true then 0 else 9) := ⟨_, rfl⟩
  obtain ⟨eb, heb⟩ : ∃ e : Int, e = (if (nv && nb) = true then 0 else 9) := ⟨_, rfl⟩
  rw [← hea] at HCa
  rw [← heb] at HCb
  obtain ⟨R, hR⟩ : ∃ R : Value, R = .tuple #[.bool ((nv && na && nb) && (decide (0 ≤ p) && decide (q ≤ 0))), .int .i64 (if (nv && na && nb) = true then 0 else 9)] := ⟨_, rfl⟩
  rw [← hR]
  have HR := Lib.hid hR
  clear hR hT
  have hE : (ea = 9 ∧ Hid (R = .tuple #[.bool false, .int .i64 9])) ∨ (ea = 0 ∧ eb = 9 ∧ Hid (R = .tuple #[.bool false, .int .i64 9])) ∨ (ea = 0 ∧ eb = 0 ∧ Hid (R = .tuple #[.bool (decide (0 ≤ p) && decide (q ≤ 0)), .int .i64 0])) := by
    have h := HR.out
    cases nv
    · exact .inl ⟨hea, Lib.hid (by rw [h]; rfl)⟩
    · cases na
      · exact .inl ⟨hea, Lib.hid (by rw [h]; rfl)⟩
      · cases nb
        · exact .inr (.inl ⟨hea, heb, Lib.hid (by rw [h]; rfl)⟩)
        · exact .inr (.inr ⟨hea, heb, Lib.hid (by rw [h]; rfl)⟩)
  clear hea heb HR
  rcases hE with ⟨rfl, HR⟩ | ⟨rfl, rfl, HR⟩ | ⟨rfl, rfl, HR⟩
  · go_enter Tryz.func15, Tryz.ntmps15
    go_wp2_with fail
    refine HCa.out.mono ?_; rintro e w1 ⟨rfl, hb1⟩
    have H1 := Lib.hid hb1
    clear hb1
    go_wp2_with fail
    go_ret2
    exact ⟨by rw [HR.out]; rfl, H1.out⟩
  · go_enter Tryz.func15, Tryz.ntmps15
    go_wp2_with fail
    refine HCa.out.mono ?_; rintro e w1 ⟨rfl, hb1⟩
    have H1 := Lib.hid hb1
    have HC2 := Lib.hid (HCb.out w1 (HT.out.step hb1))
    clear hb1
    go_wp2_with fail
    refine HC2.out.mono ?_; rintro e w2 ⟨rfl, hb2⟩
    have H2 := Lib.hid (H1.out.on hb2)
    clear hb2
    go_wp2_with fail
    go_ret2
    exact ⟨by rw [HR.out]; rfl, H2.out⟩
  · by_cases h1 : 0 ≤ p
    · rw [decide_eq_true h1] at HR
      go_enter Tryz.func15, Tryz.ntmps15
      go_wp2_with fail
      refine HCa.out.mono ?_; rintro e w1 ⟨rfl, hb1⟩
      have H1 := Lib.hid hb1
      have HC2 := Lib.hid (HCb.out w1 (HT.out.step hb1))
      clear hb1
      go_wp2_with fail
      refine HC2.out.mono ?_; rintro e w2 ⟨rfl, hb2⟩
      have H2 := Lib.hid (H1.out.on hb2)
      clear hb2
      go_wp2_with fail
      go_ret2
      exact ⟨by rw [HR.out]; rfl, H2.out⟩
    · rw [decide_eq_false h1] at HR
      have h1' : p < 0 := by omega
      clear h1
      go_enter Tryz.func15, Tryz.ntmps15
      go_wp2_with fail
      refine HCa.out.mono ?_; rintro e w1 ⟨rfl, hb1⟩
      have H1 := Lib.hid hb1
      have HC2 := Lib.hid (HCb.out w1 (HT.out.step hb1))
      clear hb1
      go_wp2_with fail
      refine HC2.out.mono ?_; rintro e w2 ⟨rfl, hb2⟩
      have H2 := Lib.hid (H1.out.on hb2)
      clear hb2
      go_wp2_with fail
      go_ret2
      exact ⟨by rw [HR.out]; rfl, H2.out⟩

def Num.isFin : Num → Bool
  | .fin _ _ => true
  | _ => false
theorem rank_key {n m : Num} (hn : n.ok) (hm : m.ok) (h : (n.isFin && m.isFin) = false) : ¬ (n.rank = 0 ∧ m.rank = 0) ∧ n.cmp m = if n.rank < m.rank then -1 else if m.rank < n.rank then 1 else 0 := by
  have kf : ∀ s X, (Num.fin s X).ok → -1000000000000000 < (Num.fin s X).key ∧ (Num.fin s X).key < 1000000000000000 := fun s X h => by
    have h : X < 1000000000000000 := h
    cases s
    · show (-1000000000000000 : Int) < (X : Int) ∧ (X : Int) < 1000000000000000; omega
    · show (-1000000000000000 : Int) < -(X : Int) ∧ -(X : Int) < 1000000000000000; omega
  unfold Num.cmp
  cases n with
  | nan =>
    cases m with
    | nan => exact ⟨by decide, rfl⟩
    | inf s => cases s <;> exact ⟨by decide, rfl⟩
    | fin s X =>
      obtain ⟨k1, k2⟩ := kf s X hm
      refine ⟨by simp [Num.rank], ?_⟩
      rw [show Num.nan.key = 2000000000000000 from rfl, show Num.nan.rank = 2 from rfl, show (Num.fin s X).rank = 0 from rfl, if_neg (by omega), if_pos (by omega)]; rfl
  | inf t =>
    cases m with
    | nan => cases t <;> exact ⟨by decide, rfl⟩
    | inf s => cases s <;> cases t <;> exact ⟨by decide, rfl⟩
    | fin s X =>
      obtain ⟨k1, k2⟩ := kf s X hm
      cases t with
      | false =>
        refine ⟨by simp [Num.rank], ?_⟩
        rw [show (Num.inf false).key = 1000000000000000 from rfl, show (Num.inf false).rank = 1 from rfl, show (Num.fin s X).rank = 0 from rfl, if_neg (by omega), if_pos (by omega)]; rfl
      | true =>
        refine ⟨by simp [Num.rank], ?_⟩
        rw [show (Num.inf true).key = -1000000000000000 from rfl, show (Num.inf true).rank = -1 from rfl, show (Num.fin s X).rank = 0 from rfl, if_pos (by omega)]; rfl
  | fin s X =>
    obtain ⟨k1, k2⟩ := kf s X hn
    cases m with
    | nan =>
      refine ⟨by simp [Num.rank], ?_⟩
      rw [show Num.nan.key = 2000000000000000 from rfl, show Num.nan.rank = 2 from rfl, show (Num.fin s X).rank = 0 from rfl, if_pos (by omega)]; rfl
    | inf t =>
      cases t with
      | false =>
        refine ⟨by simp [Num.rank], ?_⟩
        rw [show (Num.inf false).key = 1000000000000000 from rfl, show (Num.inf false).rank = 1 from rfl, show (Num.fin s X).rank = 0 from rfl, if_pos (by omega)]; rfl
      | true =>
        refine ⟨by simp [Num.rank], ?_⟩
        rw [show (Num.inf true).key = -1000000000000000 from rfl, show (Num.inf true).rank = -1 from rfl, show (Num.fin s X).rank = 0 from rfl, if_neg (by omega), if_pos (by omega)]; rfl
    | fin t Y => cases h
theorem rank_range (n : Num) : -1 ≤ n.rank ∧ n.rank ≤ 2 := by
  cases n with
  | nan => decide
  | inf s => cases s <;> decide
  | fin s X => exact ⟨show (-1 : Int) ≤ 0 by decide, show (0 : Int) ≤ 2 by decide⟩
set_option maxRecDepth 100000 in
set_option maxHeartbeats 8000000 in
theorem rcmp_at (s t : ByteArray) (w : World) (hs : s.size ≤ 1000000) (ht : t.size ≤ 1000000) :
    Calls Tryz.prog 14 #[.string s, .string t] w fun e w' => e = .returned (.tuple #[.int .i64 (zC (bytes s) (bytes t)), .int .i64 (zE (bytes s) (bytes t))]) ∧ Below w.heap.size w w' := by
  have hCa := rcanon_any s w hs
  have hCb := fun W => rcanon_any t W ht
  rw [← cmpV_eq]
  cases hn : numB (bytes s) with
  | none =>
    rw [canonV_none hn] at hCa
    have HCa := Lib.hid hCa
    have HCb := Lib.hid (fun W => rcanon_at t W ht)
    obtain ⟨x, hx⟩ : ∃ x : ByteArray, x = ⟨(cS (bytes t)).toArray⟩ := ⟨_, rfl⟩
    rw [← hx] at HCb
    generalize cE (bytes t) = eb at HCb
    rw [cmpV_left _ hn]
    clear hCa hCb hx hn
    go_enter Tryz.func14, Tryz.ntmps14
    go_wp2_with fail
    refine HCa.out.mono ?_; rintro e w1 ⟨rfl, hb1⟩
    have H1 := Lib.hid hb1
    clear hb1
    go_wp2_with fail
    refine (HCb.out _).mono ?_; rintro e w2 ⟨rfl, hb2⟩
    have H2 := Lib.hid (H1.out.on hb2)
    clear hb2
    go_wp2_with fail
    go_ret2
    exact ⟨rfl, H2.out⟩
  | some n =>
    rw [canonV_some hn] at hCa
    have HCa := Lib.hid hCa
    cases hm : numB (bytes t) with
    | none =>
      rw [canonV_none hm] at hCb
      have HCb := Lib.hid hCb
      rw [cmpV_right _ hm]
      clear hCa hCb hn hm
      go_enter Tryz.func14, Tryz.ntmps14
      go_wp2_with fail
      refine HCa.out.mono ?_; rintro e w1 ⟨rfl, hb1⟩
      have H1 := Lib.hid hb1
      clear hb1
      go_wp2_with fail
      refine (HCb.out _).mono ?_; rintro e w2 ⟨rfl, hb2⟩
      have H2 := Lib.hid (H1.out.on hb2)
      clear hb2
      go_wp2_with fail
      go_ret2
      exact ⟨rfl, H2.out⟩
    | some m =>
      rw [canonV_some hm] at hCb
      have HCb := Lib.hid hCb
      rw [cmpV_both hn hm]
      have hno := num_okB hn
      have hmo := num_okB hm
      have HRn := Lib.hid (fun W => rank_any n W hno)
      have HRm := Lib.hid (fun W => rank_any m W hmo)
      clear hCa hCb hn hm
      cases hf : (n.isFin && m.isFin) with
      | true =>
        cases n with
        | nan => cases hf
        | inf _ => cases hf
        | fin sn X =>
          cases m with
          | nan => cases hf
          | inf _ => cases hf
          | fin sm Y =>
            have HSn := Lib.hid (fun W => scaled_fin sn X W hno)
            have HSm := Lib.hid (fun W => scaled_fin sm Y W hmo)
            rw [show (Num.fin sn X).rank = 0 from rfl] at HRn
            rw [show (Num.fin sm Y).rank = 0 from rfl] at HRm
            have k1 : (Num.fin sn X).key < 1000000000000000 ∧ -1000000000000000 < (Num.fin sn X).key := by
              have h : X < 1000000000000000 := hno
              cases sn
              · show (X : Int) < _ ∧ _ < (X : Int); omega
              · show -(X : Int) < _ ∧ _ < -(X : Int); omega
            have k2 : (Num.fin sm Y).key < 1000000000000000 ∧ -1000000000000000 < (Num.fin sm Y).key := by
              have h : Y < 1000000000000000 := hmo
              cases sm
              · show (Y : Int) < _ ∧ _ < (Y : Int); omega
              · show -(Y : Int) < _ ∧ _ < -(Y : Int); omega
            unfold Num.cmp
            generalize (Num.fin sn X).key = p at HSn k1 ⊢
            generalize (Num.fin sm Y).key = q at HSm k2 ⊢
            generalize canonB (.fin sn X) = x at HCa HRn HSn
            generalize canonB (.fin sm Y) = y at HCb HRm HSm
            obtain ⟨k11, k12⟩ := k1
            obtain ⟨k21, k22⟩ := k2
            clear hno hmo hf
            rcases (by omega : p < q ∨ q < p ∨ p = q) with h | h | h
            · rw [if_pos h]
              go_enter Tryz.func14, Tryz.ntmps14
              go_wp2_with fail
              refine HCa.out.mono ?_; rintro e w1 ⟨rfl, hb1⟩
              have H1 := Lib.hid hb1
              clear hb1
              go_wp2_with fail
              refine (HCb.out _).mono ?_; rintro e w2 ⟨rfl, hb2⟩
              have H2 := Lib.hid (H1.out.on hb2)
              clear hb2
              go_wp2_with fail
              refine (HRn.out _).mono ?_; rintro e w3 ⟨rfl, rfl⟩
              go_wp2_with fail
              refine (HRm.out _).mono ?_; rintro e w3 ⟨rfl, rfl⟩
              go_wp2_with fail
              refine (HSn.out _).mono ?_; rintro e w3 ⟨rfl, rfl⟩
              go_wp2_with fail
              refine (HSm.out _).mono ?_; rintro e w3 ⟨rfl, rfl⟩
              go_wp2_with fail
              go_ret2
              exact ⟨rfl, H2.out⟩
            · rw [if_neg (by omega), if_pos h]
              go_enter Tryz.func14, Tryz.ntmps14
              go_wp2_with fail
              refine HCa.out.mono ?_; rintro e w1 ⟨rfl, hb1⟩
              have H1 := Lib.hid hb1
              clear hb1
              go_wp2_with fail
              refine (HCb.out _).mono ?_; rintro e w2 ⟨rfl, hb2⟩
              have H2 := Lib.hid (H1.out.on hb2)
              clear hb2
              go_wp2_with fail
              refine (HRn.out _).mono ?_; rintro e w3 ⟨rfl, rfl⟩
              go_wp2_with fail
              refine (HRm.out _).mono ?_; rintro e w3 ⟨rfl, rfl⟩
              go_wp2_with fail
              refine (HSn.out _).mono ?_; rintro e w3 ⟨rfl, rfl⟩
              go_wp2_with fail
              refine (HSm.out _).mono ?_; rintro e w3 ⟨rfl, rfl⟩
              have h' : q ≤ p := by omega
              go_wp2_with fail
              go_ret2
              exact ⟨rfl, H2.out⟩
            · rw [if_neg (by omega), if_neg (by omega)]
              subst h
              go_enter Tryz.func14, Tryz.ntmps14
              go_wp2_with fail
              refine HCa.out.mono ?_; rintro e w1 ⟨rfl, hb1⟩
              have H1 := Lib.hid hb1
              clear hb1
              go_wp2_with fail
              refine (HCb.out _).mono ?_; rintro e w2 ⟨rfl, hb2⟩
              have H2 := Lib.hid (H1.out.on hb2)
              clear hb2
              go_wp2_with fail
              refine (HRn.out _).mono ?_; rintro e w3 ⟨rfl, rfl⟩
              go_wp2_with fail
              refine (HRm.out _).mono ?_; rintro e w3 ⟨rfl, rfl⟩
              go_wp2_with fail
              refine (HSn.out _).mono ?_; rintro e w3 ⟨rfl, rfl⟩
              go_wp2_with fail
              refine (HSm.out _).mono ?_; rintro e w3 ⟨rfl, rfl⟩
              go_wp2_with fail
              go_ret2
              exact ⟨rfl, H2.out⟩
      | false =>
        obtain ⟨hz, hcmp⟩ := rank_key hno hmo hf
        have r1 := rank_range n
        have r2 := rank_range m
        rw [hcmp]
        generalize n.rank = p at HRn r1 hz ⊢
        generalize m.rank = q at HRm r2 hz ⊢
        generalize canonB n = x at HCa HRn
        generalize canonB m = y at HCb HRm
        obtain ⟨k11, k12⟩ := r1
        obtain ⟨k21, k22⟩ := r2
        clear hno hmo hf hcmp
        obtain ⟨R, hR⟩ : ∃ R : Int, R = (if p < q then -1 else if q < p then 1 else 0) := ⟨_, rfl⟩
        rw [← hR]
        have hRc : (p < q ∧ R = -1) ∨ (q < p ∧ R = 1) ∨ (p = q ∧ R = 0) := by
          rw [hR]
          rcases (by omega : p < q ∨ q < p ∨ p = q) with h | h | h
          · exact .inl ⟨h, if_pos h⟩
          · exact .inr (.inl ⟨h, by rw [if_neg (by omega), if_pos h]⟩)
          · exact .inr (.inr ⟨h, by rw [if_neg (by omega), if_neg (by omega)]⟩)
        clear hR
        have hz2 : ((p == 0) = true ∧ (q == 0) = false) ∨ (p == 0) = false := by
          by_cases e : p = 0
          · left; exact ⟨by rw [beq_iff_eq]; exact e, by rw [beq_eq_false_iff_ne]; exact fun h => hz ⟨e, h⟩⟩
          · right; rw [beq_eq_false_iff_ne]; exact e
        clear hz
        rcases hRc with ⟨h, rfl⟩ | ⟨h, rfl⟩ | ⟨rfl, rfl⟩ <;> rcases hz2 with ⟨z1, z2⟩ | z1
        all_goals first | (exfalso; rw [z1] at z2; cases z2; done) | skip
        all_goals
          try (have h' : q ≤ p := by omega)
          go_enter Tryz.func14, Tryz.ntmps14
          go_wp2_with fail
          refine HCa.out.mono ?_; rintro e w1 ⟨rfl, hb1⟩
          have H1 := Lib.hid hb1
          clear hb1
          go_wp2_with fail
          refine (HCb.out _).mono ?_; rintro e w2 ⟨rfl, hb2⟩
          have H2 := Lib.hid (H1.out.on hb2)
          clear hb2
          go_wp2_with fail
          refine (HRn.out _).mono ?_; rintro e w3 ⟨rfl, rfl⟩
          go_wp2_with fail
          refine (HRm.out _).mono ?_; rintro e w3 ⟨rfl, rfl⟩
          go_wp2_with fail
          go_ret2
          exact ⟨rfl, H2.out⟩

set_option maxHeartbeats 4000000 in
theorem rbetween_at (v a b : ByteArray) (w : World) (hv : v.size ≤ 1000000) (ha : a.size ≤ 1000000) (hb : b.size ≤ 1000000) :
    Calls Tryz.prog 16 #[.string v, .string a, .string b] w fun e w' => e = .returned (.tuple #[.bool (bB (bytes v) (bytes a) (bytes b)), .int .i64 (bE (bytes v) (bytes a) (bytes b))]) ∧ Below w.heap.size w w' := by
  have HCa := Lib.hid (rcmp_at v a w hv ha)
  have HCb := Lib.hid (fun W => rcmp_at v b W hv hb)
  have hr1 := zC_range (bytes v) (bytes a)
  have hr2 := zC_range (bytes v) (bytes b)
  unfold bB bE
  unfold zE at HCa HCb
  generalize zC (bytes v) (bytes a) = p at HCa hr1 ⊢
  generalize zC (bytes v) (bytes b) = q at HCb hr2 ⊢
  generalize (numB (bytes v)).isSome = nv at HCa HCb ⊢
  generalize (numB (bytes a)).isSome = na at HCa ⊢
  generalize (numB (bytes b)).isSome = nb at HCb ⊢
  obtain ⟨ea, hea⟩ : ∃ e : Int, e = (if (nv && na) = true then 0 else 9) := ⟨_, rfl⟩
  obtain ⟨eb, heb⟩ : ∃ e : Int, e = (if (nv && nb) = true then 0 else 9) := ⟨_, rfl⟩
  rw [← hea] at HCa
  rw [← heb] at HCb
  obtain ⟨R, hR⟩ : ∃ R : Value, R = .tuple #[.bool ((nv && na && nb) && (decide (0 ≤ p) && decide (q ≤ 0))), .int .i64 (if (nv && na && nb) = true then 0 else 9)] := ⟨_, rfl⟩
  rw [← hR]
  have HR := Lib.hid hR
  clear hR
  have hE : (((ea != 0) = true ∨ (ea != 0) = false ∧ (eb != 0) = true) ∧ Hid (R = .tuple #[.bool false, .int .i64 9])) ∨ ((ea != 0) = false ∧ (eb != 0) = false ∧ Hid (R = .tuple #[.bool (decide (0 ≤ p) && decide (q ≤ 0)), .int .i64 0])) := by
    have h := HR.out
    rw [hea, heb]
    cases nv
    · exact .inl ⟨.inl rfl, Lib.hid (by rw [h]; rfl)⟩
    · cases na
      · exact .inl ⟨.inl rfl, Lib.hid (by rw [h]; rfl)⟩
      · cases nb
        · exact .inl ⟨.inr ⟨rfl, rfl⟩, Lib.hid (by rw [h]; rfl)⟩
        · exact .inr ⟨rfl, rfl, Lib.hid (by rw [h]; rfl)⟩
  clear hea heb HR
  rcases hE with ⟨h | ⟨h, h'⟩, HR⟩ | ⟨h, h', HR⟩
  · go_enter Tryz.func16, Tryz.ntmps16
    go_wp2_with fail
    refine HCa.out.mono ?_; rintro e w1 ⟨rfl, hb1⟩
    have H1 := Lib.hid hb1
    clear hb1
    go_wp2_with fail
    refine (HCb.out _).mono ?_; rintro e w2 ⟨rfl, hb2⟩
    have H2 := Lib.hid (H1.out.on hb2)
    clear hb2
    go_wp2_with fail
    go_ret2
    exact ⟨by rw [HR.out]; rfl, H2.out⟩
  · go_enter Tryz.func16, Tryz.ntmps16
    go_wp2_with fail
    refine HCa.out.mono ?_; rintro e w1 ⟨rfl, hb1⟩
    have H1 := Lib.hid hb1
    clear hb1
    go_wp2_with fail
    refine (HCb.out _).mono ?_; rintro e w2 ⟨rfl, hb2⟩
    have H2 := Lib.hid (H1.out.on hb2)
    clear hb2
    go_wp2_with fail
    go_ret2
    exact ⟨by rw [HR.out]; rfl, H2.out⟩
  · by_cases h1 : 0 ≤ p
    · rw [decide_eq_true h1] at HR
      go_enter Tryz.func16, Tryz.ntmps16
      go_wp2_with fail
      refine HCa.out.mono ?_; rintro e w1 ⟨rfl, hb1⟩
      have H1 := Lib.hid hb1
      clear hb1
      go_wp2_with fail
      refine (HCb.out _).mono ?_; rintro e w2 ⟨rfl, hb2⟩
      have H2 := Lib.hid (H1.out.on hb2)
      clear hb2
      go_wp2_with fail
      go_ret2
      exact ⟨by rw [HR.out]; rfl, H2.out⟩
    · rw [decide_eq_false h1] at HR
      have h1' : p < 0 := by omega
      clear h1
      go_enter Tryz.func16, Tryz.ntmps16
      go_wp2_with fail
      refine HCa.out.mono ?_; rintro e w1 ⟨rfl, hb1⟩
      have H1 := Lib.hid hb1
      clear hb1
      go_wp2_with fail
      refine (HCb.out _).mono ?_; rintro e w2 ⟨rfl, hb2⟩
      have H2 := Lib.hid (H1.out.on hb2)
      clear hb2
      go_wp2_with fail
      go_ret2
      exact ⟨by rw [HR.out]; rfl, H2.out⟩
end Go.Proofs.YtdlhmcogpmdonaaGreatDoor
