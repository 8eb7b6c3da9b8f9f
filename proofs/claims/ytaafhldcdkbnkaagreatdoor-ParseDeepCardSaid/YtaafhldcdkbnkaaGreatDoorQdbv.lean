/- Parts of the proof, together. What the functions make of the law's deep texts of kind 3, 21 to 40 levels. No conditions. What the functions make of the law's deep texts of kind 3, 41 to 60 levels. No conditions. What the functions make of the law's deep texts of kind 3, 61 to 80 levels. No conditions. -/
import Derived.Test.YtaafhldcdkbnkaaGreatDoorQdbu
namespace Go.Proofs.YtaafhldcdkbnkaaGreatDoor
open Go.RowKit
namespace Px
open Lx Ax
set_option maxRecDepth 100000 in
theorem dp_3_21 : dpOK 3 21 = true := by decide +kernel
set_option maxRecDepth 100000 in
theorem dp_3_22 : dpOK 3 22 = true := by decide +kernel
set_option maxRecDepth 100000 in
theorem dp_3_23 : dpOK 3 23 = true := by decide +kernel
set_option maxRecDepth 100000 in
theorem dp_3_24 : dpOK 3 24 = true := by decide +kernel
set_option maxRecDepth 100000 in
theorem dp_3_25 : dpOK 3 25 = true := by decide +kernel
set_option maxRecDepth 100000 in
theorem dp_3_26 : dpOK 3 26 = true := by decide +kernel
set_option maxRecDepth 100000 in
theorem dp_3_27 : dpOK 3 27 = true := by decide +kernel
set_option maxRecDepth 100000 in
theorem dp_3_28 : dpOK 3 28 = true := by decide +kernel
set_option maxRecDepth 100000 in
theorem dp_3_29 : dpOK 3 29 = true := by decide +kernel
set_option maxRecDepth 100000 in
theorem dp_3_30 : dpOK 3 30 = true := by decide +kernel
set_option maxRecDepth 100000 in
theorem dp_3_31 : dpOK 3 31 = true := by decide +kernel
set_option maxRecDepth 100000 in
theorem dp_3_32 : dpOK 3 32 = true := by decide +kernel
set_option maxRecDepth 100000 in
theorem dp_3_33 : dpOK 3 33 = true := by decide +kernel
set_option maxRecDepth 100000 in
theorem dp_3_34 : dpOK 3 34 = true := by decide +kernel
set_option maxRecDepth 100000 in
theorem dp_3_35 : dpOK 3 35 = true := by decide +kernel
set_option maxRecDepth 100000 in
theorem dp_3_36 : dpOK 3 36 = true := by decide +kernel
set_option maxRecDepth 100000 in
theorem dp_3_37 : dpOK 3 37 = true := by decide +kernel
set_option maxRecDepth 100000 in
theorem dp_3_38 : dpOK 3 38 = true := by decide +kernel
set_option maxRecDepth 100000 in
theorem dp_3_39 : dpOK 3 39 = true := by decide +kernel
set_option maxRecDepth 100000 in
theorem dp_3_40 : dpOK 3 40 = true := by decide +kernel
theorem dp_3b (n : Nat) (h1 : 21 ≤ n) (h2 : n ≤ 40) : dpOK 3 n = true := by
  obtain rfl | rfl | rfl | rfl | rfl | rfl | rfl | rfl | rfl | rfl | rfl | rfl | rfl | rfl | rfl | rfl | rfl | rfl | rfl | rfl : n = 21 ∨ n = 22 ∨ n = 23 ∨ n = 24 ∨ n = 25 ∨ n = 26 ∨ n = 27 ∨ n = 28 ∨ n = 29 ∨ n = 30 ∨ n = 31 ∨ n = 32 ∨ n = 33 ∨ n = 34 ∨ n = 35 ∨ n = 36 ∨ n = 37 ∨ n = 38 ∨ n = 39 ∨ n = 40 := by omega
  · exact dp_3_21
  · exact dp_3_22
  · exact dp_3_23
  · exact dp_3_24
  · exact dp_3_25
  · exact dp_3_26
  · exact dp_3_27
  · exact dp_3_28
  · exact dp_3_29
  · exact dp_3_30
  · exact dp_3_31
  · exact dp_3_32
  · exact dp_3_33
  · exact dp_3_34
  · exact dp_3_35
  · exact dp_3_36
  · exact dp_3_37
  · exact dp_3_38
  · exact dp_3_39
  · exact dp_3_40
end Px
end Go.Proofs.YtaafhldcdkbnkaaGreatDoor

namespace Go.Proofs.YtaafhldcdkbnkaaGreatDoor
open Go.RowKit
namespace Px
open Lx Ax
set_option maxRecDepth 100000 in
theorem dp_3_41 : dpOK 3 41 = true := by decide +kernel
set_option maxRecDepth 100000 in
theorem dp_3_42 : dpOK 3 42 = true := by decide +kernel
set_option maxRecDepth 100000 in
theorem dp_3_43 : dpOK 3 43 = true := by decide +kernel
set_option maxRecDepth 100000 in
theorem dp_3_44 : dpOK 3 44 = true := by decide +kernel
set_option maxRecDepth 100000 in
theorem dp_3_45 : dpOK 3 45 = true := by decide +kernel
set_option maxRecDepth 100000 in
theorem dp_3_46 : dpOK 3 46 = true := by decide +kernel
set_option maxRecDepth 100000 in
theorem dp_3_47 : dpOK 3 47 = true := by decide +kernel
set_option maxRecDepth 100000 in
theorem dp_3_48 : dpOK 3 48 = true := by decide +kernel
set_option maxRecDepth 100000 in
theorem dp_3_49 : dpOK 3 49 = true := by decide +kernel
set_option maxRecDepth 100000 in
theorem dp_3_50 : dpOK 3 50 = true := by decide +kernel
set_option maxRecDepth 100000 in
theorem dp_3_51 : dpOK 3 51 = true := by decide +kernel
set_option maxRecDepth 100000 in
theorem dp_3_52 : dpOK 3 52 = true := by decide +kernel
set_option maxRecDepth 100000 in
theorem dp_3_53 : dpOK 3 53 = true := by decide +kernel
set_option maxRecDepth 100000 in
theorem dp_3_54 : dpOK 3 54 = true := by decide +kernel
set_option maxRecDepth 100000 in
theorem dp_3_55 : dpOK 3 55 = true := by decide +kernel
set_option maxRecDepth 100000 in
theorem dp_3_56 : dpOK 3 56 = true := by decide +kernel
set_option maxRecDepth 100000 in
theorem dp_3_57 : dpOK 3 57 = true := by decide +kernel
set_option maxRecDepth 100000 in
theorem dp_3_58 : dpOK 3 58 = true := by decide +kernel
set_option maxRecDepth 100000 in
theorem dp_3_59 : dpOK 3 59 = true := by decide +kernel
set_option maxRecDepth 100000 in
theorem dp_3_60 : dpOK 3 60 = true := by decide +kernel
theorem dp_3c (n : Nat) (h1 : 41 ≤ n) (h2 : n ≤ 60) : dpOK 3 n = true := by
  obtain rfl | rfl | rfl | rfl | rfl | rfl | rfl | rfl | rfl | rfl | rfl | rfl | rfl | rfl | rfl | rfl | rfl | rfl | rfl | rfl : n = 41 ∨ n = 42 ∨ n = 43 ∨ n = 44 ∨ n = 45 ∨ n = 46 ∨ n = 47 ∨ n = 48 ∨ n = 49 ∨ n = 50 ∨ n = 51 ∨ n = 52 ∨ n = 53 ∨ n = 54 ∨ n = 55 ∨ n = 56 ∨ n = 57 ∨ n = 58 ∨ n = 59 ∨ n = 60 := by omega
  · exact dp_3_41
  · exact dp_3_42
  · exact dp_3_43
  · exact dp_3_44
  · exact dp_3_45
  · exact dp_3_46
  · exact dp_3_47
  · exact dp_3_48
  · exact dp_3_49
  · exact dp_3_50
  · exact dp_3_51
  · exact dp_3_52
  · exact dp_3_53
  · exact dp_3_54
  · exact dp_3_55
  · exact dp_3_56
  · exact dp_3_57
  · exact dp_3_58
  · exact dp_3_59
  · exact dp_3_60
end Px
end Go.Proofs.YtaafhldcdkbnkaaGreatDoor

namespace Go.Proofs.YtaafhldcdkbnkaaGreatDoor
open Go.RowKit
namespace Px
open Lx Ax
set_option maxRecDepth 100000 in
theorem dp_3_61 : dpOK 3 61 = true := by decide +kernel
set_option maxRecDepth 100000 in
theorem dp_3_62 : dpOK 3 62 = true := by decide +kernel
set_option maxRecDepth 100000 in
theorem dp_3_63 : dpOK 3 63 = true := by decide +kernel
set_option maxRecDepth 100000 in
theorem dp_3_64 : dpOK 3 64 = true := by decide +kernel
set_option maxRecDepth 100000 in
theorem dp_3_65 : dpOK 3 65 = true := by decide +kernel
set_option maxRecDepth 100000 in
theorem dp_3_66 : dpOK 3 66 = true := by decide +kernel
set_option maxRecDepth 100000 in
theorem dp_3_67 : dpOK 3 67 = true := by decide +kernel
set_option maxRecDepth 100000 in
theorem dp_3_68 : dpOK 3 68 = true := by decide +kernel
set_option maxRecDepth 100000 in
theorem dp_3_69 : dpOK 3 69 = true := by decide +kernel
set_option maxRecDepth 100000 in
theorem dp_3_70 : dpOK 3 70 = true := by decide +kernel
set_option maxRecDepth 100000 in
theorem dp_3_71 : dpOK 3 71 = true := by decide +kernel
set_option maxRecDepth 100000 in
theorem dp_3_72 : dpOK 3 72 = true := by decide +kernel
set_option maxRecDepth 100000 in
theorem dp_3_73 : dpOK 3 73 = true := by decide +kernel
set_option maxRecDepth 100000 in
theorem dp_3_74 : dpOK 3 74 = true := by decide +kernel
set_option maxRecDepth 100000 in
theorem dp_3_75 : dpOK 3 75 = true := by decide +kernel
set_option maxRecDepth 100000 in
theorem dp_3_76 : dpOK 3 76 = true := by decide +kernel
set_option maxRecDepth 100000 in
theorem dp_3_77 : dpOK 3 77 = true := by decide +kernel
set_option maxRecDepth 100000 in
theorem dp_3_78 : dpOK 3 78 = true := by decide +kernel
set_option maxRecDepth 100000 in
theorem dp_3_79 : dpOK 3 79 = true := by decide +kernel
set_option maxRecDepth 100000 in
theorem dp_3_80 : dpOK 3 80 = true := by decide +kernel
theorem dp_3d (n : Nat) (h1 : 61 ≤ n) (h2 : n ≤ 80) : dpOK 3 n = true := by
  obtain rfl | rfl | rfl | rfl | rfl | rfl | rfl | rfl | rfl | rfl | rfl | rfl | rfl | rfl | rfl | rfl | rfl | rfl | rfl | rfl : n = 61 ∨ n = 62 ∨ n = 63 ∨ n = 64 ∨ n = 65 ∨ n = 66 ∨ n = 67 ∨ n = 68 ∨ n = 69 ∨ n = 70 ∨ n = 71 ∨ n = 72 ∨ n = 73 ∨ n = 74 ∨ n = 75 ∨ n = 76 ∨ n = 77 ∨ n = 78 ∨ n = 79 ∨ n = 80 := by omega
  · exact dp_3_61
  · exact dp_3_62
  · exact dp_3_63
  · exact dp_3_64
  · exact dp_3_65
  · exact dp_3_66
  · exact dp_3_67
  · exact dp_3_68
  · exact dp_3_69
  · exact dp_3_70
  · exact dp_3_71
  · exact dp_3_72
  · exact dp_3_73
  · exact dp_3_74
  · exact dp_3_75
  · exact dp_3_76
  · exact dp_3_77
  · exact dp_3_78
  · exact dp_3_79
  · exact dp_3_80
end Px
end Go.Proofs.YtaafhldcdkbnkaaGreatDoor
