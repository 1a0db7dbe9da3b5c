/- The calls of the examples, one by one. -/
import Derived.Test.YtjcgngfidnechaaDoorTShown
namespace Go.Proofs.YtjcgngfidnechaaDoor
open Go.RowKit Go.Maps Go.BigFrame

end Go.Proofs.YtjcgngfidnechaaDoor
