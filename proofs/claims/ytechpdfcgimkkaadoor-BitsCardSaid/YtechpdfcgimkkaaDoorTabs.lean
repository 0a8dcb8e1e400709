/-
  What the walks ask of a world: the two tables of package isa lie in it as the program's text lays them.
-/
import Derived.Test.YtechpdfcgimkkaaDoorProg
import Derived.Test.YtechpdfcgimkkaaDoorPure
import Derived.WalkKit
import Derived.WalkSpells
import Derived.WalkLawsBesides
import Derived.Handy
import Derived.Deep.Light
import Derived.Lib.SmallJoins
namespace Go.Proofs.YtechpdfcgimkkaaDoor
open Go.RowKit Isa
/-- The tables, read by the kind. -/
structure Tabs (w : World) : Prop where
  sz : 1 < w.heap.size
  op : ∀ k : Int, 0 ≤ k → k ≤ 24 → w.cell? ⟨1, k.toNat * 3, none⟩ = some (.int .u8 (opF k)) ∧ w.cell? ⟨1, k.toNat * 3 + 1, none⟩ = some (.int .u8 (opL k)) ∧ w.cell? ⟨1, k.toNat * 3 + 2, none⟩ = some (.int .i64 (opS k))
  sh : ∀ k : Int, 0 ≤ k → k ≤ 24 → w.cell? ⟨0, (opS k).toNat * 4, none⟩ = some (.int .i64 (kU k)) ∧ w.cell? ⟨0, (opS k).toNat * 4 + 1, none⟩ = some (.int .i64 (kL k)) ∧ w.cell? ⟨0, (opS k).toNat * 4 + 2, none⟩ = some (.int .i64 (kT k)) ∧ w.cell? ⟨0, (opS k).toNat * 4 + 3, none⟩ = some (.int .i64 (kW k))
theorem Tabs.below {B : Nat} {w w' : World} (h : Tabs w) (hB : 1 < B) (hb : Below B w w') : Tabs w' := by
  refine ⟨Nat.lt_of_lt_of_le h.sz hb.size, fun k h0 h1 => ?_, fun k h0 h1 => ?_⟩
  · obtain ⟨a, b, c⟩ := h.op k h0 h1
    exact ⟨(hb.cell (p := ⟨_, _, none⟩) (by show (1 : Nat) < B; omega)).trans a, (hb.cell (p := ⟨_, _, none⟩) (by show (1 : Nat) < B; omega)).trans b, (hb.cell (p := ⟨_, _, none⟩) (by show (1 : Nat) < B; omega)).trans c⟩
  · obtain ⟨a, b, c, d⟩ := h.sh k h0 h1
    exact ⟨(hb.cell (p := ⟨_, _, none⟩) (by show (0 : Nat) < B; omega)).trans a, (hb.cell (p := ⟨_, _, none⟩) (by show (0 : Nat) < B; omega)).trans b, (hb.cell (p := ⟨_, _, none⟩) (by show (0 : Nat) < B; omega)).trans c, (hb.cell (p := ⟨_, _, none⟩) (by show (0 : Nat) < B; omega)).trans d⟩
theorem bcell {B : Nat} {W w1 : World} (hb : Below B W w1) : (∀ b o, b < B → w1.cell? ⟨b, o, none⟩ = W.cell? ⟨b, o, none⟩) ∧ (∀ b o, b < B → w1.frozen? ⟨b, o, none⟩ = W.frozen? ⟨b, o, none⟩) :=
  ⟨fun b o h => hb.cell (p := ⟨b, o, none⟩) h, fun b o h => hb.frozen (p := ⟨b, o, none⟩) h⟩
end Go.Proofs.YtechpdfcgimkkaaDoor
