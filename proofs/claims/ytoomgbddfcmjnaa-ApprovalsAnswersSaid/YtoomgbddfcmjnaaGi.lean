/- Ints: what a function gives that makes a list of ints. -/
import Derived.Test.YtoomgbddfcmjnaaProg
import Derived.Test.YtoomgbddfcmjnaaGen
import Derived.Test.YtoomgbddfcmjnaaOwn
import Derived.Test.YtoomgbddfcmjnaaAft
import Derived.WalkSpells
import Derived.Lib.SliceRun
namespace Go.Proofs.Ytoomgbddfcmjnaa
open Go.RowKit
def GivesInts (l : List Int) (w : World) (e : Ending) (w' : World) : Prop := ∃ v, e = .returned v ∧ Own w' w.heap.size 3 .i64 v l ∧ Below w.heap.size w w'
theorem int_info : (Try.prog.info? 3).map (fun i => (i.zero, i.size, i.bytes)) = some (some (.int .i64 0), 1, 8) := by kernel_rfl
/-- a literal without elements -/
theorem Own.empty (w : World) (e : TypeId) (k : IntKind) : Own (w.alloc (.cells #[] e)) w.heap.size e k (.slice (some ⟨w.heap.size, 0, none⟩) 0 0) [] :=
  ⟨rfl, .inr ⟨w.heap.size, 0, #[], rfl, Nat.le_refl _, heap_alloc_new w _, Nat.le_refl _, by simp [maxLen], rfl, rfl⟩⟩
end Go.Proofs.Ytoomgbddfcmjnaa
