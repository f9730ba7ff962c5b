/- Nothing of the library's shelf is wanted here. -/
import Derived.Test.YtpidodeekogcfaaProg
namespace Go.Proofs.Ytpidodeekogcfaa
end Go.Proofs.Ytpidodeekogcfaa
