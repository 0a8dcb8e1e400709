/-
  What the form's bound on data says of an image's parts.
-/
import Derived.Test.YtmibbjjfijcgpacPureImg
namespace Go.Proofs.Ytmibbjjfijcgpac
structure Img.small (m : Img) : Prop where
  text : m.text.length ≤ 140737488351232
  funcs : 32 * m.funcs.length ≤ 140737488351232
  tables : 24 * m.tables.length ≤ 140737488351232
  table : ∀ t ∈ m.tables, 8 * t.length ≤ 140737488351232
  data : 8 * m.data.length ≤ 140737488351232
  lines : 16 * m.lines.length ≤ 140737488351232
end Go.Proofs.Ytmibbjjfijcgpac
