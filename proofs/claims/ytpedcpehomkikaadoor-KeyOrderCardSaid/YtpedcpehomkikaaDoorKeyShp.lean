/-
  An argument that is a slice: its address, length and capacity.
-/
import Derived.Test.YtpedcpehomkikaaDoorKeyOrder
import Derived.Test.YtpedcpehomkikaaDoorKeyArg
namespace Go.Proofs.YtpedcpehomkikaaDoor
open Go Go.RowKit Go.Joins Go.ChangeShapes Go.WideShapes Go.Deep Go.Lib
set_option linter.unusedVariables false
set_option maxRecDepth 100000

theorem shape_of {H : Type} {enc : TypeId × Value → H} {W : World} {d : DataW H} {pl : List MemPlace} {t e : TypeId} {ao : Option Addr} {n c : Nat} (ht : Tryd.prog.underlying t = some (.slice e))
    (h : DataW.Trod enc Tryd.prog W 0 (fun _ => true) true t (.slice ao n c) d pl) : Shp ao n c := by
  obtain ⟨fuel, hf⟩ := h
  rcases Go.Deep.open_slice ht hf with ⟨hcs, hx⟩ | ⟨a, len', cap', m, n', D, Pl, hcs, _, hl, hm, hmm, hx, hel⟩
  · simp [Value.cells] at hcs
    exact .inl hcs
  · simp [Value.cells] at hcs
    obtain ⟨rfl, rfl, rfl⟩ := hcs
    exact .inr ⟨a, rfl, hl⟩

end Go.Proofs.YtpedcpehomkikaaDoor
