/- As the text that it imports. -/
import Derived.Test.YtcelbkmnbjcjhaaGreatShelf
