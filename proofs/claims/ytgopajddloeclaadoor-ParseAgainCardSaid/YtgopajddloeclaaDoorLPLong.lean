/- A text that is too long. -/
import Derived.Test.YtgopajddloeclaaDoorZ25
namespace Go.Proofs.YtgopajddloeclaaDoor
open Go.RowKit Go.Lib Go.WideShapes

set_option maxRecDepth 100000 in
theorem split_long (s : ByteArray) (m : Int) (w : World) (hs : 2000 < s.size) (h9 : s.size ≤ 9223372036854775807) (hm : w.cell? ⟨2, 0, none⟩ = some (.int .i64 m)) :
    Calls Tryd.prog 23 #[.string s] w fun e w' => e = .returned (.tuple #[.slice none 0 0, .int .i64 3]) ∧ Below w.heap.size w w' := by
  have HS := Lib.hid (scan_any s m w h9 hm)
  rw [show told (bytes s) = ([], 3) by unfold told; rw [if_pos (by rw [bytes_len]; exact hs)]] at HS
  clear hm hs h9
  go_enter Tryd.func23, Tryd.ntmps23
  go_wp2_with fail
  refine HS.out.mono ?_; rintro e w1 ⟨v, rfl, hO, hb1⟩
  have HB1 := Lib.hid hb1
  clear hO hb1 HS
  go_wp2_with fail
  go_ret2
  exact ⟨rfl, HB1.out⟩

set_option maxRecDepth 100000 in
set_option maxHeartbeats 4000000 in
theorem parse_long (s : ByteArray) (m : Int) (w : World) (hs : 2000 < s.size) (h9 : s.size ≤ 9223372036854775807) (hm : w.cell? ⟨2, 0, none⟩ = some (.int .i64 m)) :
    Calls Tryd.prog 11 #[.string s] w fun e w' => e = .returned (.tuple #[.agg #[.int .u8 0, .string { data := #[] }, .string { data := #[] }], .int .i64 3]) ∧ Below w.heap.size w w' := by
  have HS := Lib.hid (Res.start w)
  have HSP := Lib.hid (split_long s m _ hs h9 (Lib.cell?_alloc_some (Obj.cells #[.int .u8 0, .string { data := #[] }, .string { data := #[] }] 27) hm))
  clear hm hs h9
  go_enter Tryd.func11, Tryd.ntmps11
  go_wp2_with fail
  refine HSP.out.mono ?_; rintro e w1 ⟨rfl, hb1⟩
  have HR1 := Lib.hid (HS.out.step hb1)
  clear hb1 HSP
  have c0 := HR1.out.c0
  have c1 := HR1.out.c1
  have c2 := HR1.out.c2
  have f0 := HR1.out.f0
  have f1 := HR1.out.f1
  have f2 := HR1.out.f2
  go_wp2_with fail
  obtain ⟨⟨k0, k1, k2⟩, hbb⟩ := HR1.out.put (.int .u8 0) (.string { data := #[] }) (.string { data := #[] })
  simp [bodyPost, results, Tryd.results11, go_sem, k0, k1, k2]
  exact hbb

/-- What a parse leaves of any text. -/
theorem parse_all (s : ByteArray) (m : Int) (w : World) (h9 : s.size ≤ 9223372036854775807) (hm : w.cell? ⟨2, 0, none⟩ = some (.int .i64 m)) (hbar : BarredAt w) :
    Calls Tryd.prog 11 #[.string s] w fun e w' => e = .returned (.tuple #[(parsedC (bytes s)).1.val, .int .i64 ((parsedC (bytes s)).2 : Nat)]) ∧ Below w.heap.size w w' := by
  by_cases hs : s.size ≤ 2000
  · exact parse_any s m w hs hm hbar
  · have := parse_long s m w (by omega) h9 hm
    rw [show parsedC (bytes s) = (noCmd, 3) by unfold parsedC; rw [if_pos (by rw [bytes_len]; omega)]]
    exact this
end Go.Proofs.YtgopajddloeclaaDoor
