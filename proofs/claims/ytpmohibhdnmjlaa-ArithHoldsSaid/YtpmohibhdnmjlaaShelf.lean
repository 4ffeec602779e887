/-
  Nothing: this seat has no contracts of the shelf.
-/
import Derived.Test.YtpmohibhdnmjlaaChecked
