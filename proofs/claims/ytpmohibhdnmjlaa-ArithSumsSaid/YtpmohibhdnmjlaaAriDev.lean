/-
  The contracts of package arith, for the laws.
-/
import Derived.Test.YtpmohibhdnmjlaaAriP
