/-
  MsgGrows: what it says of entries.
-/
import Derived.Test.YtlmpknhekoeecaaMsgB
namespace Go.Proofs.Ytlmpknhekoeecaa
open Go Go.RowKit
set_option linter.unusedVariables false
set_option linter.unusedSimpArgs false
set_option maxRecDepth 100000

theorem apply_two (e : En) (m n : Ms) : applyE (applyE e m) n = ((e.st.after m).after n).en e.k := by
  show ((applyE e m).st.after n).en (applyE e m).k = _
  rw [apply_st, apply_k]
theorem gr_commit (e : En) (off : Int) (val : ByteArray) : applyE (applyE e ⟨0, 4, ⟨#[]⟩, 0, val, off, 0⟩) ⟨0, 5, e.k, e.x, ⟨#[]⟩, 0, 0⟩ = applyE (applyE e ⟨0, 5, e.k, e.x, ⟨#[]⟩, 0, 0⟩) ⟨0, 4, ⟨#[]⟩, 0, val, off, 0⟩ := by
  rw [apply_two, apply_two, grow_commit (st_ok e) rfl rfl rfl]
theorem gr_twice (e : En) (off : Int) (val : ByteArray) (h0 : 0 ≤ off) (h1 : off < 255) : applyE (applyE e ⟨0, 4, ⟨#[]⟩, 0, val, off, 0⟩) ⟨0, 4, ⟨#[]⟩, 0, val, off, 0⟩ = applyE e ⟨0, 4, ⟨#[]⟩, 0, val, off, 0⟩ := by
  rw [apply_two, grow_twice rfl h0 h1]
  rfl
theorem gr_add (e : En) (off x y z : Int) (hx : 0 ≤ x) (hy : 0 ≤ y) (hz : z = (x + y) % 18446744073709551616) :
    applyE (applyE e ⟨0, 3, e.k, 0, ⟨#[]⟩, off, x⟩) ⟨0, 3, e.k, 0, ⟨#[]⟩, off, y⟩ = applyE e ⟨0, 3, e.k, 0, ⟨#[]⟩, off, z⟩ := by
  have h := add_add (s := e.st) (m := ⟨0, 3, e.k, 0, ⟨#[]⟩, off, x⟩) (n := ⟨0, 3, e.k, 0, ⟨#[]⟩, off, y⟩) (b := ⟨0, 3, e.k, 0, ⟨#[]⟩, off, z⟩) rfl rfl rfl rfl rfl rfl rfl rfl hx hy hz
  rw [apply_two, h]
  rfl

end Go.Proofs.Ytlmpknhekoeecaa
