/- 1 texts put together: what each one says stands ahead of it. -/
import Derived.Test.YtpkbjfhicocogaaGreatDoorKPlays42
import Derived.Test.YtpkbjfhicocogaaGreatDoorKPlays43
/- The laid table and the setup that came in: what the outer texts take. -/
