/-
  What Nibbles gives: the table.
-/
import Derived.Test.YthjkokapehmliaaDoorEight
namespace Go.Proofs.YthjkokapehmliaaDoor
open Go.RowKit

set_option maxRecDepth 100000 in
theorem nibbles_any (w : World) (hT : Tab w) :
    Calls Tryd.prog 12 #[] w fun e w' => e = .returned (.agg tabCells) ∧ Below w.heap.size w w' := by
  have hpos := hT.pos
  have c0 : w.cell? ⟨0, 0, none⟩ = some (.int .u32 0) := hT.cell 0 (by omega)
  have c1 : w.cell? ⟨0, 1, none⟩ = some (.int .u32 498536548) := hT.cell 1 (by omega)
  have c2 : w.cell? ⟨0, 2, none⟩ = some (.int .u32 997073096) := hT.cell 2 (by omega)
  have c3 : w.cell? ⟨0, 3, none⟩ = some (.int .u32 651767980) := hT.cell 3 (by omega)
  have c4 : w.cell? ⟨0, 4, none⟩ = some (.int .u32 1994146192) := hT.cell 4 (by omega)
  have c5 : w.cell? ⟨0, 5, none⟩ = some (.int .u32 1802195444) := hT.cell 5 (by omega)
  have c6 : w.cell? ⟨0, 6, none⟩ = some (.int .u32 1303535960) := hT.cell 6 (by omega)
  have c7 : w.cell? ⟨0, 7, none⟩ = some (.int .u32 1342533948) := hT.cell 7 (by omega)
  have c8 : w.cell? ⟨0, 8, none⟩ = some (.int .u32 3988292384) := hT.cell 8 (by omega)
  have c9 : w.cell? ⟨0, 9, none⟩ = some (.int .u32 4027552580) := hT.cell 9 (by omega)
  have c10 : w.cell? ⟨0, 10, none⟩ = some (.int .u32 3604390888) := hT.cell 10 (by omega)
  have c11 : w.cell? ⟨0, 11, none⟩ = some (.int .u32 3412177804) := hT.cell 11 (by omega)
  have c12 : w.cell? ⟨0, 12, none⟩ = some (.int .u32 2607071920) := hT.cell 12 (by omega)
  have c13 : w.cell? ⟨0, 13, none⟩ = some (.int .u32 2262029012) := hT.cell 13 (by omega)
  have c14 : w.cell? ⟨0, 14, none⟩ = some (.int .u32 2685067896) := hT.cell 14 (by omega)
  have c15 : w.cell? ⟨0, 15, none⟩ = some (.int .u32 3183342108) := hT.cell 15 (by omega)
  clear hT
  go_enter Tryd.func12, Tryd.ntmps12
  go_wp2
  go_returns
  exact ⟨rfl, by go_grown⟩

end Go.Proofs.YthjkokapehmliaaDoor
