/- What the device's calls do: all of it. -/
import Derived.Test.YtcjbdoppphjpjaaDsk3e
