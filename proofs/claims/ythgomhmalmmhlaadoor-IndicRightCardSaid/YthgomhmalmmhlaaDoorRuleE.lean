/- Layer 3: rows of pairs stand in FlatP. -/
import Derived.Test.YthgomhmalmmhlaaDoorRuleD
import Derived.Test.YthgomhmalmmhlaaDoorFlatP
