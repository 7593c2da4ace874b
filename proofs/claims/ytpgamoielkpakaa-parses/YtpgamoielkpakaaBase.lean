/-
  PROVED HERE: nothing: what every walk of this seat imports.
-/
import Derived.Test.YtpgamoielkpakaaRows
import Derived.Test.YtpgamoielkpakaaSha
import Derived.WalkKit
import Derived.WalkSpells
import Derived.WalkLawsBesides
import Derived.Laws.BitsAllLaws
import Derived.Deep.QuietTactic
import Derived.BigQuiet
