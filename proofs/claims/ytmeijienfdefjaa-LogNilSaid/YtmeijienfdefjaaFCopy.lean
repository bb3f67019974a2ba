/- (frame_on_mem.py: its declarations are wip/mem's.) -/
import Derived.Test.YtmeijienfdefjaaMCopy
import Derived.Test.YtmeijienfdefjaaFMem
import Derived.Laws.CopyOwn
