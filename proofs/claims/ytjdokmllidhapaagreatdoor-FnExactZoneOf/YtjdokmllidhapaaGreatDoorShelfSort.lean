/- The library's contracts: they lie in the shelf. -/
import Derived.Test.YtjdokmllidhapaaGreatDoorShelf
