/- The walk of FrameChecks; bytes that came in. -/
import Derived.Test.YtmeijienfdefjaaFApart
import Derived.Test.YtmeijienfdefjaaFAppend
import Derived.Test.YtmeijienfdefjaaFAwake
import Derived.OpenShut
namespace Go.Proofs.Ytmeijienfdefjaa
open Go.RowKit

end Go.Proofs.Ytmeijienfdefjaa
