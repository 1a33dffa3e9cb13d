/- What the calls of the landed conv answer: Conv, Exact, Size, Place, Mul, Widened. -/
import Derived.Test.YtocfenjampmdlabGreatDoorCd
import Derived.Test.YtocfenjampmdlabGreatDoorTm
import Derived.Test.YtocfenjampmdlabGreatDoorBIntt
import Derived.Test.YtocfenjampmdlabGreatDoorBBdx
import Derived.Test.YtocfenjampmdlabGreatDoorDl
import Derived.Test.YtocfenjampmdlabGreatDoorDt
import Derived.Test.YtocfenjampmdlabGreatDoorDw
