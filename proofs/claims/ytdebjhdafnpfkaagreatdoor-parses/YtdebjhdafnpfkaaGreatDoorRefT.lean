import Derived.Test.YtdebjhdafnpfkaaGreatDoorRefO
import Derived.Test.YtdebjhdafnpfkaaGreatDoorRefQ
import Derived.Test.YtdebjhdafnpfkaaGreatDoorRefS
import Derived.Test.YtdebjhdafnpfkaaGreatDoorRefR
namespace Go.Proofs.YtdebjhdafnpfkaaGreatDoor
open Go.ChangeShapes Go.WideShapes Go.ChangeAt Go.RowKit
set_option linter.unusedVariables false

theorem line_all (s : ByteArray) (hs : s.size ≤ 4000) : LineC s := fun b x it cs items w h hits hlen hinv he =>
  line_any b s x it cs items w hs h hits (fun x' w' h' hits' hinv' he' => item_any b s x' it cs items w' hs h' hits' hlen hinv' he') hinv he
/-- The document's own answer, whole: of any text. -/
theorem read_all (s : ByteArray) (w : World) (hs63 : s.size ≤ 4611686018427387904) :
    Calls Tryz.prog 12 #[.string s] w fun e w' => ∃ it cs, e = .returned (ptr w.heap.size) ∧ RD w' w.heap.size s (rread s).1 it ∧ Its w' w.heap.size it cs (rread s).2 ∧ Below w.heap.size w w' :=
  read_any s w hs63 (line_all s)
end Go.Proofs.YtdebjhdafnpfkaaGreatDoor
