/- The examples come out true. -/
import Derived.Test.YtjcgngfidnechaaDoorTShownB
namespace Go.Proofs.YtjcgngfidnechaaDoor
open Go.RowKit Go.Maps Go.BigFrame

end Go.Proofs.YtjcgngfidnechaaDoor
