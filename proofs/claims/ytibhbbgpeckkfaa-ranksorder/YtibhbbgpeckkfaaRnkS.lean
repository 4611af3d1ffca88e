import Derived.Test.YtibhbbgpeckkfaaRnkAd
/- Package ranks: its three functions. -/
