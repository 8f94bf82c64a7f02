import Derived.Test.YtbhnbcadgmagpaaGreatDoorBih
import Derived.Sort.MapsRangeIn
import Derived.OwnWalkIn
