/- The library's contracts at this program. -/
import Derived.Test.YtfpljeblehieiaaDoorDedS
