/- The document's own writer: a field of any letter. -/
import Derived.Test.YtfdffiphlpeegaaER99
import Derived.Test.YtfdffiphlpeegaaER108
import Derived.Test.YtfdffiphlpeegaaER109
import Derived.Test.YtfdffiphlpeegaaER118
import Derived.Test.YtfdffiphlpeegaaEF102
import Derived.Test.YtfdffiphlpeegaaEF112
namespace Go.Proofs.Ytfdffiphlpeegaa
open Go.RowKit Go.Lib Go.WideShapes

set_option maxHeartbeats 4000000 in
theorem rfield_99 (w0 w : World) (s : XS) (hr : xr s ≤ 850000) (h : IsR w0 w s) :
    Calls Try.prog 19 #[.pointer (some ⟨w0.heap.size, 0, none⟩), .int .u8 99] w (ROut w0 (xRow 99 s)) := by
  have HR := Lib.hid (rrow_99 w0 w s hr h)
  clear h hr
  go_enter Try.func19, Try.ntmps19
  go_wp2_with fail
  refine HR.out.mono ?_; rintro e w2 ⟨rfl, hI⟩
  have HI2 := Lib.hid hI
  clear hI
  go_wp2_with fail
  go_end0
  exact ⟨rfl, HI2.out⟩

set_option maxHeartbeats 4000000 in
theorem rfield_108 (w0 w : World) (s : XS) (hr : xr s ≤ 850000) (h : IsR w0 w s) :
    Calls Try.prog 19 #[.pointer (some ⟨w0.heap.size, 0, none⟩), .int .u8 108] w (ROut w0 (xRow 108 s)) := by
  have HR := Lib.hid (rrow_108 w0 w s hr h)
  clear h hr
  go_enter Try.func19, Try.ntmps19
  go_wp2_with fail
  refine HR.out.mono ?_; rintro e w2 ⟨rfl, hI⟩
  have HI2 := Lib.hid hI
  clear hI
  go_wp2_with fail
  go_end0
  exact ⟨rfl, HI2.out⟩

set_option maxHeartbeats 4000000 in
theorem rfield_109 (w0 w : World) (s : XS) (hr : xr s ≤ 850000) (h : IsR w0 w s) :
    Calls Try.prog 19 #[.pointer (some ⟨w0.heap.size, 0, none⟩), .int .u8 109] w (ROut w0 (xRow 109 s)) := by
  have HR := Lib.hid (rrow_109 w0 w s hr h)
  clear h hr
  go_enter Try.func19, Try.ntmps19
  go_wp2_with fail
  refine HR.out.mono ?_; rintro e w2 ⟨rfl, hI⟩
  have HI2 := Lib.hid hI
  clear hI
  go_wp2_with fail
  go_end0
  exact ⟨rfl, HI2.out⟩

set_option maxHeartbeats 4000000 in
theorem rfield_118 (w0 w : World) (s : XS) (hr : xr s ≤ 850000) (h : IsR w0 w s) :
    Calls Try.prog 19 #[.pointer (some ⟨w0.heap.size, 0, none⟩), .int .u8 118] w (ROut w0 (xRow 118 s)) := by
  have HR := Lib.hid (rrow_118 w0 w s hr h)
  clear h hr
  go_enter Try.func19, Try.ntmps19
  go_wp2_with fail
  refine HR.out.mono ?_; rintro e w2 ⟨rfl, hI⟩
  have HI2 := Lib.hid hI
  clear hI
  go_wp2_with fail
  go_end0
  exact ⟨rfl, HI2.out⟩

theorem rfield_any (w0 w : World) (s : XS) (c : UInt8) (hc : letter c = true) (hr : xr s ≤ 850000) (h : IsR w0 w s) :
    Calls Try.prog 19 #[.pointer (some ⟨w0.heap.size, 0, none⟩), .int .u8 (c.toNat : Nat)] w (ROut w0 (xField c s)) := by
  have hm : c = 115 ∨ c = 98 ∨ c = 105 ∨ c = 112 ∨ c = 102 ∨ c = 99 ∨ c = 108 ∨ c = 118 ∨ c = 109 := by
    simpa [letter] using hc
  rcases hm with rfl | rfl | rfl | rfl | rfl | rfl | rfl | rfl | rfl
  · exact rfield_text w0 w s (by omega) h
  · exact rfield_byte w0 w s (by omega) h
  · exact rfield_long w0 w s (by omega) h
  · exact rfield_112 w0 w s hr h
  · exact rfield_102 w0 w s hr h
  · exact rfield_99 w0 w s hr h
  · exact rfield_108 w0 w s hr h
  · exact rfield_118 w0 w s hr h
  · exact rfield_109 w0 w s hr h
end Go.Proofs.Ytfdffiphlpeegaa
