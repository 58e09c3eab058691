
/-
  What the landed log's calls hand back, all of them. No conditions beyond what each theorem states.
-/
import Derived.Test.YtafhjccghbpbbaaLogProg3
import Derived.Test.YtafhjccghbpbbaaLogProg4
import Derived.Test.YtafhjccghbpbbaaLogProg5
namespace Go.Proofs.Ytafhjccghbpbbaa
open Go.ChangeShapes Go.WideShapes Go.ChangeAt Go.RowKit Go.Lib
set_option linter.unusedVariables false
set_option linter.unusedSimpArgs false

theorem log_spec : LogSpec Lgg where
  below _ _ _ _ _ h hb := h.below hb
  lt _ _ _ _ h k hk := by
    obtain ⟨mo, v, h⟩ := h
    exact h.lt k hk
  othersK _ _ _ _ h := h.othersK
  apartK _ _ _ _ _ N h hN hk := h.apartK hN hk
  zero := Lgg.zero
  put S K l w x p c h hf hr hs hb hc hp hl := put_anyL S K l w x p c h hf hr hs hb hc hp hl
  reply S K l w r fr tu most h hr hf ht hg _ _ := reply_anyL S K l w r fr tu most h hr hf ht hg
  get S K l w r s h hr hs _ := (get_anyL S K l w r s h hr hs).mono fun e w' he => by
    obtain ⟨p, c, h1, h2, h3⟩ := he
    exact ⟨p, c, h1, h2.row, h3⟩
  len S K l w h _ := len_any S K l w h
  size S K l w h _ := size_any S K l w h
  all S K l w h hl := all_anyL S K l w h hl
end Go.Proofs.Ytafhjccghbpbbaa
