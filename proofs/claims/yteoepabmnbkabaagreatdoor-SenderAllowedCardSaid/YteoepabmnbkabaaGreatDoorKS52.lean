/- 1 texts put together: what each one says stands ahead of it. -/
import Derived.Test.YteoepabmnbkabaaGreatDoorKS50
import Derived.Test.YteoepabmnbkabaaGreatDoorKS51
