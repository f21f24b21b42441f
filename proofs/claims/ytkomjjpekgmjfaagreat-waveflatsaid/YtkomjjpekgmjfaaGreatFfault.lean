/- shuntref02.Fault: what a fraction is refused for. -/
import Derived.Test.YtkomjjpekgmjfaaGreatGaq
import Derived.Test.YtkomjjpekgmjfaaGreatGai
namespace Go.Proofs.YtkomjjpekgmjfaaGreat
open Go.RowKit
namespace D
end D
namespace F
end F
end Go.Proofs.YtkomjjpekgmjfaaGreat
