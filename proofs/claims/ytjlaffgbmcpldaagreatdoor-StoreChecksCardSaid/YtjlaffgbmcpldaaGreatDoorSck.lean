import Derived.Test.YtjlaffgbmcpldaaGreatDoorG40
import Derived.Test.YtjlaffgbmcpldaaGreatDoorG39
import Derived.Test.YtjlaffgbmcpldaaGreatDoorG44
import Derived.Test.YtjlaffgbmcpldaaGreatDoorG41
namespace Go.Proofs.YtjlaffgbmcpldaaGreatDoor
theorem rright_all : RRt := fun x w => rright_any x w
theorem lawof_all : LOt := fun x w => lawof_any x w
end Go.Proofs.YtjlaffgbmcpldaaGreatDoor
