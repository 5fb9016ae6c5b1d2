/-
  What (ring.web).take does, whatever is called for who has lost a step.
-/
import Derived.Test.YtkkenfhlgpjmjaaGreatDoorCL1a

