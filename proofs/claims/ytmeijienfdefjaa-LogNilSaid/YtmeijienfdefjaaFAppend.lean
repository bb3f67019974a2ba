/- (frame_on_mem.py: its declarations are wip/mem's.) -/
import Derived.Test.YtmeijienfdefjaaMAppend
import Derived.Test.YtmeijienfdefjaaFCopy
import Derived.Laws.AppendOwnNone
