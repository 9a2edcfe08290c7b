/- The statement MsgTexts: its walk. -/
import Derived.Test.YtfdffiphlpeegaaMTextsC
import Derived.ChangeAlike
import Derived.OpenShut
import Derived.SizedLaws
import Derived.HandedShaped
namespace Go.Proofs.Ytfdffiphlpeegaa
open Go.RowKit Go.Lib Go.WideShapes Go.ChangeShapes Go.ChangeAt Go.Joins

/-- No byte 0 among the first ones. -/
def clean (l : Bs) : Bool := decide ((0 : UInt8) ∉ l)
theorem clean_next {l : Bs} {j : Nat} (h : j < l.length) : clean (l.take (j + 1)) = (clean (l.take j) && (l[j] != 0)) := by
  have e : ((0 : UInt8) ∈ l.take (j + 1)) ↔ ((0 : UInt8) ∈ l.take j ∨ l[j] = 0) := by
    rw [List.take_succ_eq_append_getElem h, List.mem_append, List.mem_singleton]
    exact or_congr Iff.rfl eq_comm
  unfold clean
  by_cases h1 : (0 : UInt8) ∈ l.take j
  · rw [decide_eq_false (p := ¬ (0 : UInt8) ∈ l.take (j + 1)) (fun h => h (e.2 (.inl h1))), decide_eq_false (p := ¬ (0 : UInt8) ∈ l.take j) (fun h => h h1)]; rfl
  · by_cases h2 : l[j] = 0
    · rw [decide_eq_false (p := ¬ (0 : UInt8) ∈ l.take (j + 1)) (fun h => h (e.2 (.inr h2))), h2, decide_eq_true (p := ¬ (0 : UInt8) ∈ l.take j) h1]; rfl
    · rw [decide_eq_true (p := ¬ (0 : UInt8) ∈ l.take (j + 1)) (fun h => (e.1 h).elim h1 h2), decide_eq_true (p := ¬ (0 : UInt8) ∈ l.take j) h1]
      show true = (l[j] != 0)
      exact (bne_iff_ne.2 h2).symm

theorem take_lit (c : Int) (h0 : 0 < c) (h1 : c < 256) (b : ByteArray) (hb : b.size ≤ 10000) (w : World) :
    Calls Try.prog 17 #[.string (packB c b), .bool false] w fun e w' => e = .returned (.tuple #[.agg #[.int .u8 c, .string b], .string { data := #[] }, .int .i64 0]) ∧ Below w.heap.size w w' := by
  obtain ⟨n, rfl⟩ := Int.eq_ofNat_of_zero_le (Int.le_of_lt h0)
  exact take_text n (by omega) b hb w
theorem byte_ne (b : UInt8) : ((b.toNat : Int) != 0) = (b != 0) := by
  by_cases h : b = 0
  · subst h; rfl
  · have h1 : ¬ (b.toNat : Int) = 0 := fun e => h (UInt8.toNat_inj.mp (by have : b.toNat = 0 := by omega
                                                                          exact this))
    rw [bne_iff_ne.2 h, bne_iff_ne.2 h1]

set_option maxRecDepth 100000 in
set_option maxHeartbeats 16000000 in
theorem texts_walk (s t : ByteArray) (w : World) (hz_s : s.size ≤ 1000000000000000000) (hz_t : t.size ≤ 1000000000000000000) :
    Calls Try.prog 5 #[.string s, .string t] w fun e w' => e = .returned (.bool true) ∧ Below w.heap.size w w' := by
  by_cases hbig : 3000 < s.size + t.size
  · have hbig' : (3000 : Int) < s.size + t.size := by omega
    go_enter Try.func5, Try.ntmps5
    go_wp2_with fail
    refine (shown_any _).mono ?_; rintro e w1 ⟨rfl, hB1⟩
    have HB1 := Lib.hid hB1
    clear hB1
    go_wp2_with fail
    go_ret
    exact ⟨rfl, HB1.out⟩
  · have hbig' : ¬ (3000 : Int) < s.size + t.size := by omega
    have hs : s.size ≤ 3000 := by omega
    have ht : t.size ≤ 3000 := by omega
    go_enter Try.func5, Try.ntmps5
    go_wp2_with fail
    refine (shown_any _).mono ?_; rintro e w1 ⟨rfl, hB1⟩
    have HB1 := Lib.hid hB1
    clear hB1
    go_wp2_with fail
    refine (text_one w1 s hs).mono ?_; rintro e w2 ⟨rfl, hB2⟩
    have HB2 := Lib.hid (HB1.out.trans (hB2.mono HB1.out.size))
    clear hB2
    go_wp2_with fail
    refine (text_two w2 s t (by omega)).mono ?_; rintro e w3 ⟨rfl, hB3⟩
    have HB3 := Lib.hid (HB2.out.trans (hB3.mono HB2.out.size))
    clear hB3
    go_wp2_with fail
    go_loopw [10, 12] (fun o i wr => ∃ j : Nat, j ≤ s.size ∧ i = .int .i64 j ∧ o = .bool (clean ((bytes s).take j)) ∧ wr = w3) (fun _ i _ => s.size - (RowKit.intOf i).toNat)
    case atStart => exact ⟨0, Nat.zero_le _, rfl, rfl, rfl⟩
    case round =>
      obtain ⟨j, hj, rfl, rfl, hwr⟩ := hrel
      subst hwr
      by_cases hlt : j < s.size
      · have hlt' : (j : Int) < s.size := by omega
        have hjl : j < (bytes s).length := by rw [blen]; exact hlt
        have HN := Lib.hid (clean_next hjl)
        generalize hb : clean ((bytes s).take j) = b at HN ⊢
        cases b with
        | true =>
          have HN := Lib.hid (show clean ((bytes s).take (j + 1)) = (s[j] != 0) from HN.out)
          clear hb
          go_wp2_with fail
          go_roundw
          case measure => first | omega | (simp [RowKit.intOf]; omega)
          case rel => exact ⟨j + 1, by omega, by go_num, (by rw [HN.out]; first | done | exact congrArg Value.bool (byte_ne _)), (by trivial)⟩
        | false =>
          have HN := Lib.hid (show clean ((bytes s).take (j + 1)) = false from HN.out)
          clear hb
          go_wp2_with fail
          go_roundw
          case measure => first | omega | (simp [RowKit.intOf]; omega)
          case rel => exact ⟨j + 1, by omega, by go_num, (by rw [HN.out]; first | done | exact congrArg Value.bool (byte_ne _)), (by trivial)⟩
      · obtain rfl : j = s.size := by omega
        have HOK := Lib.hid (show clean ((bytes s).take s.size) = clean (bytes s) by rw [← blen, List.take_length])
        rw [HOK.out]
        obtain ⟨o1, ho1⟩ : ∃ o1, o1 = clean (bytes s) := ⟨_, rfl⟩
        rw [← ho1]
        have HO1 := Lib.hid ho1
        clear HOK hlt ho1
        go_wp2_with fail
        go_loopw [11, 13] (fun o i wx => ∃ j : Nat, j ≤ t.size ∧ i = .int .i64 j ∧ o = .bool (clean ((bytes t).take j)) ∧ wx = wr) (fun _ i _ => t.size - (RowKit.intOf i).toNat)
        case atStart => exact ⟨0, Nat.zero_le _, rfl, rfl, rfl⟩
        case round =>
          obtain ⟨j, hj, rfl, rfl, hwx⟩ := hrel
          subst hwx
          by_cases hlt : j < t.size
          · have hlt' : (j : Int) < t.size := by omega
            have hjl : j < (bytes t).length := by rw [blen]; exact hlt
            have HN := Lib.hid (clean_next hjl)
            generalize hb : clean ((bytes t).take j) = b at HN ⊢
            cases b with
            | true =>
              have HN := Lib.hid (show clean ((bytes t).take (j + 1)) = (t[j] != 0) from HN.out)
              clear hb
              go_wp2_with fail
              go_roundw
              case measure => first | omega | (simp [RowKit.intOf]; omega)
              case rel => exact ⟨j + 1, by omega, by go_num, (by rw [HN.out]; first | done | exact congrArg Value.bool (byte_ne _)), (by trivial)⟩
            | false =>
              have HN := Lib.hid (show clean ((bytes t).take (j + 1)) = false from HN.out)
              clear hb
              go_wp2_with fail
              go_roundw
              case measure => first | omega | (simp [RowKit.intOf]; omega)
              case rel => exact ⟨j + 1, by omega, by go_num, (by rw [HN.out]), (by trivial)⟩
          · obtain rfl : j = t.size := by omega
            have HOK := Lib.hid (show clean ((bytes t).take t.size) = clean (bytes t) by rw [← blen, List.take_length])
            rw [HOK.out]
            clear HOK hlt
            have B1 : (⟨(bytes s ++ [0]).toArray⟩ : ByteArray) = s ++ { data := #[0] } := by apply ByteArray.ext; apply Array.toList_inj.1; simp [bytes]
            have B2 : (⟨(bytes s ++ [0] ++ (bytes t ++ [0])).toArray⟩ : ByteArray) = s ++ { data := #[0] } ++ t ++ { data := #[0] } := by apply ByteArray.ext; apply Array.toList_inj.1; simp [bytes]
            have Z1 : (s ++ { data := #[0] }).size ≤ 10000 := by rw [← B1, bsize, List.length_append, blen]; simp only [List.length_cons, List.length_nil]; omega
            have Z2 : (s ++ { data := #[0] } ++ t ++ { data := #[0] }).size ≤ 10000 := by rw [← B2, bsize]; simp only [List.length_append, blen, List.length_cons, List.length_nil]; omega
            have B1 := Lib.hid B1; have B2 := Lib.hid B2
            by_cases h0 : (0 : UInt8) ∈ bytes s
            · have k1 : o1 = false := by rw [HO1.out]; exact decide_eq_false (p := ¬ (0 : UInt8) ∈ bytes s) (fun h => h h0)
              have k2 : e1 s = 1 := if_pos h0
              have k3 : e2 s t = 1 := if_pos h0
              have k4 : q2 s t = { data := #[] } := if_pos h0
              rw [k1, k2, k3, k4]
              generalize clean (bytes t) = o2
              cases o2 <;> (go_wp2_with fail; go_ret; exact ⟨rfl, HB3.out⟩)
            · have k1 : o1 = true := by rw [HO1.out]; exact decide_eq_true (p := ¬ (0 : UInt8) ∈ bytes s) h0
              have k2 : e1 s = 0 := if_neg h0
              have k5 : q1 s = packB 81 (s ++ { data := #[0] }) := by rw [← B1.out]; exact if_neg h0
              by_cases h1 : (0 : UInt8) ∈ bytes t
              · have k6 : clean (bytes t) = false := decide_eq_false (p := ¬ (0 : UInt8) ∈ bytes t) (fun h => h h1)
                have k3 : e2 s t = 1 := by unfold e2; rw [if_neg h0, if_pos h1]
                have k4 : q2 s t = { data := #[] } := by unfold q2; rw [if_neg h0, if_pos h1]
                rw [k1, k2, k3, k4, k5, k6]
                go_wp2_with fail
                refine (take_lit 81 (by decide) (by decide) _ Z1 _).mono ?_; rintro e w5 ⟨rfl, hB4⟩
                have HB5 := Lib.hid (HB3.out.trans (hB4.mono HB3.out.size))
                clear hB4
                go_wp2_with fail
                go_ret
                exact ⟨rfl, HB5.out.alloc (by exact HB5.out.size) _⟩
              · have k6 : clean (bytes t) = true := decide_eq_true (p := ¬ (0 : UInt8) ∈ bytes t) h1
                have k3 : e2 s t = 0 := by unfold e2; rw [if_neg h0, if_neg h1]
                have k4 : q2 s t = packB 83 (s ++ { data := #[0] } ++ t ++ { data := #[0] }) := by rw [← B2.out]; unfold q2; rw [if_neg h0, if_neg h1]
                rw [k1, k2, k3, k4, k5, k6]
                go_wp2_with fail
                refine (take_lit 81 (by decide) (by decide) _ Z1 _).mono ?_; rintro e w5 ⟨rfl, hB4⟩
                have HB5 := Lib.hid (HB3.out.trans (hB4.mono HB3.out.size))
                clear hB4
                go_wp2_with fail
                refine (take_lit 83 (by decide) (by decide) _ Z2 _).mono ?_; rintro e w6 ⟨rfl, hB6⟩
                have HB6 := Lib.hid ((HB5.out.alloc (by exact HB5.out.size) _).trans (hB6.mono (by rw [World.size_alloc]; exact Nat.le_succ_of_le HB5.out.size)))
                clear hB6
                go_wp2_with fail
                go_ret
                exact ⟨rfl, HB6.out.alloc (by exact HB6.out.size) _⟩
set_option maxRecDepth 100000 in
theorem texts_lifted (os : Os) (started : os.Started) (H : Type) (enc : TypeId × Value → H) :
    ReturnsInHanded {} Try.checked os 5 .any (Rows.msgTextsSpec.pre6 enc Try.prog Try.f5 Rows.msgTextsRow.domain false) (Rows.msgTextsSpec.post enc Try.prog Try.f5 false true false false) := by
  refine returnsInHanded_of_change_sized (C := Try.checked) own started (by kernel_rfl) Try.func5
    (ChangeSpec.witness6 (enc := enc) (C := Try.checked) false ⟨#[], #[.string { data := #[] }, .string { data := #[] }], []⟩ 8 (by kernel_rfl) (by kernel_rfl) (by kernel_rfl) (by kernel_rfl)) ?_
  intro W base args ds gs before hval0 hW _ hsz0 _
  have hsz : (DataW.weightsEach Try.prog (Try.f5.params.toList ++ Rows.msgTextsSpec.plain.varTypes Try.prog) (ds ++ gs)).all (· ≤ reachBytes) = true := hsz0
  clear hsz0
  have hval : ∀ (j : Nat) t v, Try.f5.params[j]? = some t → args[j]? = some v → Value.okWide Try.prog W .any base t v := hval0
  have hW' := hW
  obtain ⟨p, q, hA0, hV, rfl, _, _⟩ := hW
  have hA : DataW.TrodAll enc Try.prog W 0 (fun _ => true) true Try.f5.params.toList args.toList ds p := hA0
  rw [Try.params5] at hA hval hsz
  obtain ⟨v0, v1, d0, d1, p0, p1, rfl, rfl, rfl, h0, h1⟩ := trodAll_two hA
  obtain ⟨rfl, rfl⟩ := trodVars_none hV
  obtain ⟨s, rfl, rfl, rfl, hl_s⟩ := Go.ChangeMaps.open_string Try.underlying9 (hval 0 9 v0 rfl rfl) h0
  have hz_s : s.size ≤ 140737488351232 := by have := sized_string hsz (j := 0) (t := 9) rfl rfl; rw [size_list] at this; exact this
  obtain ⟨t, rfl, rfl, rfl, hl_t⟩ := Go.ChangeMaps.open_string Try.underlying9 (hval 1 9 v1 rfl rfl) h1
  have hz_t : t.size ≤ 140737488351232 := by have := sized_string hsz (j := 1) (t := 9) rfl rfl; rw [size_list] at this; exact this
  refine (texts_walk s t W (by omega) (by omega)).mono fun e W' ⟨he, hb⟩ => ?_
  subst he
  exact ⟨_, rfl, law_shut laidOut (by kernel_rfl) (by kernel_rfl) Try.underlying4 rfl hW' rfl hb⟩

theorem texts_holds : Rows.MsgTextsSaid :=
  OpenClaim.holds_of_wide 5 Try.f5 rfl rfl rfl rfl rfl rfl rfl ⟨rfl, rfl, rfl, rfl, rfl⟩ rfl rfl rfl rfl rfl (by kernel_rfl) Try.func5 (by kernel_rfl)
    (of_decide_eq_true (by kernel_rfl)) (by unfold Func.isWrapper; rw [if_neg (of_decide_eq_false (by kernel_rfl))]; exact ⟨rfl, rfl⟩)
    (fun os started H enc _ => texts_lifted os started H enc)
end Go.Proofs.Ytfdffiphlpeegaa
