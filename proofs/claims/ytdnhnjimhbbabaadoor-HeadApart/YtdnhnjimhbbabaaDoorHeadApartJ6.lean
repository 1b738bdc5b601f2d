/- Texts of our own that the row of HeadApart leans on, part 6. -/
import Derived.Lib.Bytealg

/- Digits of base 16: what a digest's digits are, and which digest some digits are. No program is spoken of. -/
namespace Go.Proofs.YtdnhnjimhbbabaaDoor
namespace Digs
end Digs
end Go.Proofs.YtdnhnjimhbbabaaDoor
