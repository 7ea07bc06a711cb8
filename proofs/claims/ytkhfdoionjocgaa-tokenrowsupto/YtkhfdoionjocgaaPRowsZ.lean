/-
  TokenRows: the statement.
-/
import Derived.Test.YtkhfdoionjocgaaPRows
import Derived.Test.YtkhfdoionjocgaaRq
namespace Go.Proofs.Ytkhfdoionjocgaa
theorem tokenRows_upto : Rows.TokenRowsUptoSaid := rows_said_of fun va vn a x w h1 h2 h3 => tokenRows_walk va vn a x w h1 h2 h3
end Go.Proofs.Ytkhfdoionjocgaa
