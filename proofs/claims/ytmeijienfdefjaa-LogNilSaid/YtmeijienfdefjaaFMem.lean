/- (frame_on_mem.py: its declarations are wip/mem's.) -/
import Derived.Test.YtmeijienfdefjaaMMem
import Derived.Test.YtmeijienfdefjaaFCheck
import Derived.Deep.OwnRows
import Derived.Deep.Draws
import Derived.OwnWalk
import Derived.Maps.AppendAt
