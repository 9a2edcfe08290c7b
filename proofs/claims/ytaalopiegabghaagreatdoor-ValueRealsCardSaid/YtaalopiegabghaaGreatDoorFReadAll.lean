/- Go's reader of numbers, at digits with or without a point, and a sign. -/
import Derived.Test.YtaalopiegabghaaGreatDoorFRead0
import Derived.Test.YtaalopiegabghaaGreatDoorFRead1
import Derived.Test.YtaalopiegabghaaGreatDoorFRead2
namespace Go.Proofs.YtaalopiegabghaaGreatDoor
open Go.RowKit Go.Lib Go.WideShapes

theorem readfloat_any (s : ByteArray) (sg : Bs) (d : Dcm) (w : World) (hsg : Sgn sg) (hd : d.ok) (hs : bytes s = sg ++ d.text) :
    Calls Tryz.prog 79 #[.string s] w fun e w' => e = .returned (.tuple #[.int .u64 (d.man : Nat), .int .i64 (if d.man = 0 then 0 else -(d.p.length : Int)), .bool (sgB sg), .bool false, .bool false, .int .i64 (s.size : Nat), .bool true]) ∧ w = w' := by
  rcases hsg with rfl | rfl | rfl
  · exact readfloat_0 s d w hd hs
  · exact readfloat_1 s d w hd hs
  · exact readfloat_2 s d w hd hs
end Go.Proofs.YtaalopiegabghaaGreatDoor
