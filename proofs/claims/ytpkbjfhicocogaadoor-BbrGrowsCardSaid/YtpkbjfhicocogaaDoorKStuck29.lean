/- 1 texts put together: what each one says stands ahead of it. -/
import Derived.Test.YtpkbjfhicocogaaDoorKStuck27
import Derived.Test.YtpkbjfhicocogaaDoorKStuck28
/- The laid table and the setup that came in: what the outer texts take. -/
