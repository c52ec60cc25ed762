/- What the device's calls do: all of it. -/
import Derived.Test.YthipcfdmkkfofaaDsk3e
import Derived.Test.YthipcfdmkkfofaaDsk3f
