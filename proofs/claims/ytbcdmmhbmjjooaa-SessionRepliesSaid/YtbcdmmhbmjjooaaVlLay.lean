/-
  How values lie, beside what value.Check returns (two texts in one import, for the texts of elder seats).
  No condition but those named.
-/
import Derived.Test.YtbcdmmhbmjjooaaValRChk
import Derived.Test.YtbcdmmhbmjjooaaVlBlk
