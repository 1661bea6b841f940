/- root.Gcd and root.Sqrt, by their contracts gcd_k and sqrt_k. -/
import Derived.Test.YthcclkjccaoniaaGm
