/-
  What the law ValueOrders returns: true, for every three values.
  No condition but the form's own, and what the listed variables hold.
-/
import Derived.Test.YtdhfmapcggohmaaDoorValOrd1
import Derived.Test.YtdhfmapcggohmaaDoorValOrd2
import Derived.Test.YtdhfmapcggohmaaDoorValOrd3
namespace Go.Proofs.YtdhfmapcggohmaaDoor
open Go.RowKit

theorem orders_yes (a b c : Val.V) (w : World) (ha : a.f < 18446744073709551616) (hb : b.f < 18446744073709551616) (hc : c.f < 18446744073709551616) (ht : TabOk w) (hv : ErrOk w) : Lift.Yes Tryd.prog 4 #[vv a, vv b, vv c] w := by
  rcases three a b c with h | h | h
  · exact orders_yes1 a b c w ha hb hc ht hv h
  · exact orders_yes2 a b c w ha hb hc ht hv h
  · exact orders_yes3 a b c w ha hb hc ht hv h

end Go.Proofs.YtdhfmapcggohmaaDoor
