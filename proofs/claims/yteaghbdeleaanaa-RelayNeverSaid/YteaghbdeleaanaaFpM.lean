/-
  Filter's texts over the older texts as they are (XFpMs, the slim one, holds what they use of them: put it here where no other text of the seat needs those).
-/
import Derived.Test.YteaghbdeleaanaaFld
import Derived.Test.YteaghbdeleaanaaRef
import Derived.Test.YteaghbdeleaanaaLawF
import Derived.Test.YteaghbdeleaanaaGen
import Derived.Test.YteaghbdeleaanaaRgK
import Derived.Test.YteaghbdeleaanaaOpen
