/- A region that draws its order, whose operations read what lay there when it began, and whose callees make memory but write nothing that lay there: one walk in the order of the text serves every order. -/
import Derived.WalkKit
import Derived.BigQuiet
import Derived.BigGuardPart
import Derived.Lib.Hide
namespace Go.Proofs.Ytoomgbddfcmjnaa
open Go.RowKit
/-- A world behind w: what lay in w lies there still. -/
structure Aft (w : World) where
  now : World
  below : Below w.heap.size w now
instance (w : World) : Nonempty (Aft w) := ⟨⟨w, Below.refl _ _⟩⟩
theorem below_of_drawn {B : Nat} {w : World} (n : Nat) : Below B w { w with drawn := w.drawn + n } := ⟨rfl, rfl, rfl, Nat.le_refl _, fun _ _ => rfl⟩
theorem below_drewN {B : Nat} {a w : World} (h : Below B a w) (n : Nat) : Below B a (w.drewN n) := ⟨h.os, h.tape, h.output, h.size, h.block⟩
theorem Aft.cell {w : World} {p : Addr} {v : Value} (hc : w.cell? p = some v) : ∀ x : Aft w, x.now.cell? p = some v := fun x => by
  rw [x.below.cell (World.block_lt_of_cell? w p hc)]; exact hc
theorem below_cell {w w1 : World} (hb : Below w.heap.size w w1) {p : Addr} {v : Value} (h : w.cell? p = some v) : w1.cell? p = some v := by rw [hb.cell (World.block_lt_of_cell? w p h)]; exact h
theorem below_frozen {w w1 : World} (hb : Below w.heap.size w w1) {p : Addr} {v : Value} {b : Bool} (h : w.cell? p = some v) (hf : w.frozen? p = b) : w1.frozen? p = b := by rw [hb.frozen (World.block_lt_of_cell? w p h)]; exact hf
theorem below_drew {w w1 : World} (hb : Below w.drew.heap.size w.drew w1) : Below w.heap.size w w1 := ⟨hb.os, hb.tape, hb.output, hb.size, hb.block⟩
section
variable {P : Program}
theorem wp_region_aft {id : Nat} {Q : Exit → Act → World → Prop} {a : Act} {w : World} {l : List Oper} (hm : P.follows .mixedOrders = true) (hB : Region.lexB .any l.toArray = true)
    (h : wpQuiet P l.toArray (fun w' => ∃ x : Aft w, w' = x.now) (fun a' => ∀ w', (∃ x : Aft w, w' = x.now) → Q .normal a' w') l a) : (Code.region id l.toArray true).wp P Q a w :=
  wp_region_quiet (C := fun w' => ∃ x : Aft w, w' = x.now) hm hB ⟨⟨_, below_of_drawn 1⟩, rfl⟩ (by simpa using h)
/-- A callee that writes nothing that lay there. -/
theorem Calls.aft {f : FuncId} {args : Array Value} {w : World} {x : Aft w} {v : Value}
    (h : Calls P f args x.now fun e w' => e = .returned v ∧ Below x.now.heap.size x.now w') : Calls P f args x.now fun e w'' => e = .returned v ∧ ∃ y : Aft w, w'' = y.now :=
  h.mono fun _ w' ⟨he, hb⟩ => ⟨he, ⟨w', x.below.trans (hb.mono x.below.size)⟩, rfl⟩
theorem Calls.aft_same {f : FuncId} {args : Array Value} {w : World} {x : Aft w} {v : Value}
    (h : Calls P f args x.now fun e w' => e = .returned v ∧ x.now = w') : Calls P f args x.now fun e w'' => e = .returned v ∧ ∃ y : Aft w, w'' = y.now :=
  h.mono fun _ _ ⟨he, hb⟩ => ⟨he, x, hb.symm⟩
theorem Calls.aft_drew {f : FuncId} {args : Array Value} {w : World} {x : Aft w} {v : Value}
    (h : Calls P f args x.now fun e w' => e = .returned v ∧ ∃ m, w' = x.now.drewN m) : Calls P f args x.now fun e w'' => e = .returned v ∧ ∃ y : Aft w, w'' = y.now :=
  h.mono fun _ _ ⟨he, m, hb⟩ => ⟨he, ⟨_, below_drewN x.below m⟩, hb⟩
end
end Go.Proofs.Ytoomgbddfcmjnaa
