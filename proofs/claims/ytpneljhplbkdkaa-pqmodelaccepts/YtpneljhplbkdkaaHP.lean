
/- The program bears what the laws ask of it. -/
import Derived.Test.YtpneljhplbkdkaaHN
namespace Go.Proofs.Ytpneljhplbkdkaa
theorem bears : Bears := ⟨fun W => Head_has W, fun m c h W hm hk hi => PDo_has m c h W hm hk hi, fun m W hm hl hi => PValid_has m W hm hl hi⟩
end Go.Proofs.Ytpneljhplbkdkaa
