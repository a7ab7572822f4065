/- Layer 3: rows of pairs stand in FlatP. -/
import Derived.Test.YtgjmclbcmfkhdaaDoorRuleD
import Derived.Test.YtgjmclbcmfkhdaaDoorFlatP
