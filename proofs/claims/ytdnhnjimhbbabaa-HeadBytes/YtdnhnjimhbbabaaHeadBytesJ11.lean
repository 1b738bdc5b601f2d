/- Texts of our own that the row of HeadBytes leans on, part 11. -/
import Derived.Test.YtdnhnjimhbbabaaHeadBytesJ3
import Derived.Test.YtdnhnjimhbbabaaHeadBytesJ7
import Derived.Test.YtdnhnjimhbbabaaProg
import Derived.WalkSpells
import Derived.WalkLawsBesides
import Derived.OpenShut

/- What sha.turned answers: a word turned round to the right. -/
namespace Go.Proofs.Ytdnhnjimhbbabaa
open Go.RowKit Sums
set_option linter.unusedVariables false

end Go.Proofs.Ytdnhnjimhbbabaa
