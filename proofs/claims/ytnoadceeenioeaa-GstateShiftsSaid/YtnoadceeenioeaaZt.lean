/-
  What follow of package gstate's reckoner answers.
-/
import Derived.Test.YtnoadceeenioeaaZtb
import Derived.Test.YtnoadceeenioeaaZtc
namespace Go.Proofs.Ytnoadceeenioeaa
open Go.RowKit Go.PlainAid
set_option linter.unusedSimpArgs false
set_option linter.unusedVariables false

theorem follow_c (g : Int) (a b : Mk) (r : Nat) (f : Bool) (w : World) (h : RkIn w r f) :
    Calls Try.prog 52 #[.pointer (some ⟨r, 0, none⟩), .int .i64 g, .agg #[.int .i64 a.o, .int .i64 a.c, .bool a.t], .agg #[.int .i64 b.o, .int .i64 b.c, .bool b.t]] w (RkPost w r f (flS g a b)) := by
  by_cases hsw : b.o < a.o
  · exact follow_swap g a b r f w h hsw
  · exact follow_keep g a b r f w h hsw

end Go.Proofs.Ytnoadceeenioeaa
