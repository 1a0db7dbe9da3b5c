/- What the document's Check of binds, bound, Laid and Apply answer. -/
import Derived.Test.YtjcgngfidnechaaDoorTRefD
import Derived.Test.YtjcgngfidnechaaDoorTApplyC
import Derived.Test.YtjcgngfidnechaaDoorTShown
namespace Go.Proofs.YtjcgngfidnechaaDoor
open Go.RowKit Go.Maps Go.BigFrame

end Go.Proofs.YtjcgngfidnechaaDoor
