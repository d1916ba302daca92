/- Closed facts on the types of the program, for the walk over plain values. -/
import Derived.Test.YtikeikkcgddmiaaDoorPw16
import Derived.Test.YtikeikkcgddmiaaDoorProg
namespace Go.Proofs.YtikeikkcgddmiaaDoor
open Go Go.RowKit
theorem isAgg2 : isAggB Tryd.prog 2 = some false := by kernel_rfl
theorem tsz2 : (Tryd.prog.types[2]'(of_decide_eq_true (by kernel_rfl))).size = 1 := by kernel_rfl
theorem size2 : sizeB Tryd.prog 2 = some 1 := by kernel_rfl
theorem intK2 : intKindB Tryd.prog 2 = some .i64 := by kernel_rfl
theorem elem2 : elemB Tryd.prog 2 = none := by kernel_rfl
theorem zero2 : zeroC Tryd.prog 2 = some [.int .i64 0] := by kernel_rfl
theorem isAgg3 : isAggB Tryd.prog 3 = some false := by kernel_rfl
theorem tsz3 : (Tryd.prog.types[3]'(of_decide_eq_true (by kernel_rfl))).size = 1 := by kernel_rfl
theorem size3 : sizeB Tryd.prog 3 = some 1 := by kernel_rfl
theorem intK3 : intKindB Tryd.prog 3 = some .i64 := by kernel_rfl
theorem elem3 : elemB Tryd.prog 3 = none := by kernel_rfl
theorem zero3 : zeroC Tryd.prog 3 = some [.int .i64 0] := by kernel_rfl
theorem isAgg4 : isAggB Tryd.prog 4 = some false := by kernel_rfl
theorem tsz4 : (Tryd.prog.types[4]'(of_decide_eq_true (by kernel_rfl))).size = 1 := by kernel_rfl
theorem size4 : sizeB Tryd.prog 4 = some 1 := by kernel_rfl
theorem intK4 : intKindB Tryd.prog 4 = none := by kernel_rfl
theorem elem4 : elemB Tryd.prog 4 = none := by kernel_rfl
theorem und4 : Tryd.prog.underlying 4 = some .bool := by kernel_rfl
theorem zero4 : zeroC Tryd.prog 4 = some [.bool false] := by kernel_rfl
theorem isAgg5 : isAggB Tryd.prog 5 = some false := by kernel_rfl
theorem tsz5 : (Tryd.prog.types[5]'(of_decide_eq_true (by kernel_rfl))).size = 1 := by kernel_rfl
theorem size5 : sizeB Tryd.prog 5 = some 1 := by kernel_rfl
theorem intK5 : intKindB Tryd.prog 5 = some .u8 := by kernel_rfl
theorem elem5 : elemB Tryd.prog 5 = none := by kernel_rfl
theorem und5 : Tryd.prog.underlying 5 = some (.int .u8) := by kernel_rfl
theorem zero5 : zeroC Tryd.prog 5 = some [.int .u8 0] := by kernel_rfl
theorem isAgg6 : isAggB Tryd.prog 6 = some false := by kernel_rfl
theorem tsz6 : (Tryd.prog.types[6]'(of_decide_eq_true (by kernel_rfl))).size = 1 := by kernel_rfl
theorem size6 : sizeB Tryd.prog 6 = some 1 := by kernel_rfl
theorem intK6 : intKindB Tryd.prog 6 = some .u8 := by kernel_rfl
theorem elem6 : elemB Tryd.prog 6 = none := by kernel_rfl
theorem und6 : Tryd.prog.underlying 6 = some (.int .u8) := by kernel_rfl
theorem zero6 : zeroC Tryd.prog 6 = some [.int .u8 0] := by kernel_rfl
theorem isAgg7 : isAggB Tryd.prog 7 = some true := by kernel_rfl
theorem tsz7 : (Tryd.prog.types[7]'(of_decide_eq_true (by kernel_rfl))).size = 4 := by kernel_rfl
theorem size7 : sizeB Tryd.prog 7 = some 4 := by kernel_rfl
theorem intK7 : intKindB Tryd.prog 7 = none := by kernel_rfl
theorem elem7 : elemB Tryd.prog 7 = none := by kernel_rfl
theorem zero7 : zeroC Tryd.prog 7 = some [.int .i64 0, .int .i64 0, .bool false, .int .u8 0] := by kernel_rfl
theorem field7_0 : fieldB Tryd.prog 7 0 = some (0, 2) := by kernel_rfl
theorem field7_1 : fieldB Tryd.prog 7 1 = some (1, 3) := by kernel_rfl
theorem field7_2 : fieldB Tryd.prog 7 2 = some (2, 4) := by kernel_rfl
theorem field7_3 : fieldB Tryd.prog 7 3 = some (3, 6) := by kernel_rfl
theorem places7 : placesOf Tryd.prog 7 = some (fun i => (#[(0, 1), (1, 1), (2, 1), (3, 1)] : Array (Nat × Nat))[i]?) := by kernel_rfl
theorem isAgg8 : isAggB Tryd.prog 8 = some true := by kernel_rfl
theorem tsz8 : (Tryd.prog.types[8]'(of_decide_eq_true (by kernel_rfl))).size = 4 := by kernel_rfl
theorem size8 : sizeB Tryd.prog 8 = some 4 := by kernel_rfl
theorem intK8 : intKindB Tryd.prog 8 = none := by kernel_rfl
theorem elem8 : elemB Tryd.prog 8 = none := by kernel_rfl
theorem zero8 : zeroC Tryd.prog 8 = some [.int .i64 0, .int .i64 0, .bool false, .int .u8 0] := by kernel_rfl
theorem field8_0 : fieldB Tryd.prog 8 0 = some (0, 2) := by kernel_rfl
theorem field8_1 : fieldB Tryd.prog 8 1 = some (1, 3) := by kernel_rfl
theorem field8_2 : fieldB Tryd.prog 8 2 = some (2, 4) := by kernel_rfl
theorem field8_3 : fieldB Tryd.prog 8 3 = some (3, 6) := by kernel_rfl
theorem places8 : placesOf Tryd.prog 8 = some (fun i => (#[(0, 1), (1, 1), (2, 1), (3, 1)] : Array (Nat × Nat))[i]?) := by kernel_rfl
theorem isAgg9 : isAggB Tryd.prog 9 = some false := by kernel_rfl
theorem tsz9 : (Tryd.prog.types[9]'(of_decide_eq_true (by kernel_rfl))).size = 1 := by kernel_rfl
theorem size9 : sizeB Tryd.prog 9 = some 1 := by kernel_rfl
theorem intK9 : intKindB Tryd.prog 9 = none := by kernel_rfl
theorem elem9 : elemB Tryd.prog 9 = none := by kernel_rfl
theorem und9 : Tryd.prog.underlying 9 = some .string := by kernel_rfl
theorem zero9 : zeroC Tryd.prog 9 = some [.string ByteArray.empty] := by kernel_rfl
theorem isAgg10 : isAggB Tryd.prog 10 = some false := by kernel_rfl
theorem tsz10 : (Tryd.prog.types[10]'(of_decide_eq_true (by kernel_rfl))).size = 1 := by kernel_rfl
theorem size10 : sizeB Tryd.prog 10 = some 1 := by kernel_rfl
theorem intK10 : intKindB Tryd.prog 10 = none := by kernel_rfl
theorem elem10 : elemB Tryd.prog 10 = none := by kernel_rfl
theorem und10 : Tryd.prog.underlying 10 = some .string := by kernel_rfl
theorem zero10 : zeroC Tryd.prog 10 = some [.string ByteArray.empty] := by kernel_rfl
theorem isAgg11 : isAggB Tryd.prog 11 = some false := by kernel_rfl
theorem tsz11 : (Tryd.prog.types[11]'(of_decide_eq_true (by kernel_rfl))).size = 1 := by kernel_rfl
theorem size11 : sizeB Tryd.prog 11 = some 1 := by kernel_rfl
theorem intK11 : intKindB Tryd.prog 11 = none := by kernel_rfl
theorem elem11 : elemB Tryd.prog 11 = none := by kernel_rfl
theorem und11 : Tryd.prog.underlying 11 = some .string := by kernel_rfl
theorem zero11 : zeroC Tryd.prog 11 = some [.string ByteArray.empty] := by kernel_rfl
theorem isAgg12 : isAggB Tryd.prog 12 = some false := by kernel_rfl
theorem tsz12 : (Tryd.prog.types[12]'(of_decide_eq_true (by kernel_rfl))).size = 1 := by kernel_rfl
theorem size12 : sizeB Tryd.prog 12 = some 1 := by kernel_rfl
theorem intK12 : intKindB Tryd.prog 12 = some .u64 := by kernel_rfl
theorem elem12 : elemB Tryd.prog 12 = none := by kernel_rfl
theorem zero12 : zeroC Tryd.prog 12 = some [.int .u64 0] := by kernel_rfl
theorem isAgg13 : isAggB Tryd.prog 13 = some true := by kernel_rfl
theorem tsz13 : (Tryd.prog.types[13]'(of_decide_eq_true (by kernel_rfl))).size = 2 := by kernel_rfl
theorem size13 : sizeB Tryd.prog 13 = some 2 := by kernel_rfl
theorem intK13 : intKindB Tryd.prog 13 = none := by kernel_rfl
theorem elem13 : elemB Tryd.prog 13 = none := by kernel_rfl
theorem zero13 : zeroC Tryd.prog 13 = some [.string ByteArray.empty, .int .u64 0] := by kernel_rfl
theorem field13_0 : fieldB Tryd.prog 13 0 = some (0, 9) := by kernel_rfl
theorem field13_1 : fieldB Tryd.prog 13 1 = some (1, 12) := by kernel_rfl
theorem places13 : placesOf Tryd.prog 13 = some (fun i => (#[(0, 1), (1, 1)] : Array (Nat × Nat))[i]?) := by kernel_rfl
theorem isAgg14 : isAggB Tryd.prog 14 = some true := by kernel_rfl
theorem tsz14 : (Tryd.prog.types[14]'(of_decide_eq_true (by kernel_rfl))).size = 2 := by kernel_rfl
theorem size14 : sizeB Tryd.prog 14 = some 2 := by kernel_rfl
theorem intK14 : intKindB Tryd.prog 14 = none := by kernel_rfl
theorem elem14 : elemB Tryd.prog 14 = none := by kernel_rfl
theorem zero14 : zeroC Tryd.prog 14 = some [.string ByteArray.empty, .int .u64 0] := by kernel_rfl
theorem field14_0 : fieldB Tryd.prog 14 0 = some (0, 9) := by kernel_rfl
theorem field14_1 : fieldB Tryd.prog 14 1 = some (1, 12) := by kernel_rfl
theorem places14 : placesOf Tryd.prog 14 = some (fun i => (#[(0, 1), (1, 1)] : Array (Nat × Nat))[i]?) := by kernel_rfl
theorem isAgg18 : isAggB Tryd.prog 18 = some true := by kernel_rfl
theorem tsz18 : (Tryd.prog.types[18]'(of_decide_eq_true (by kernel_rfl))).size = 1 := by kernel_rfl
theorem size18 : sizeB Tryd.prog 18 = some 1 := by kernel_rfl
theorem intK18 : intKindB Tryd.prog 18 = none := by kernel_rfl
theorem elem18 : elemB Tryd.prog 18 = none := by kernel_rfl
theorem zero18 : zeroC Tryd.prog 18 = some [.pointer none] := by kernel_rfl
theorem field18_0 : fieldB Tryd.prog 18 0 = some (0, 17) := by kernel_rfl
theorem isAgg19 : isAggB Tryd.prog 19 = some true := by kernel_rfl
theorem tsz19 : (Tryd.prog.types[19]'(of_decide_eq_true (by kernel_rfl))).size = 1 := by kernel_rfl
theorem size19 : sizeB Tryd.prog 19 = some 1 := by kernel_rfl
theorem intK19 : intKindB Tryd.prog 19 = none := by kernel_rfl
theorem elem19 : elemB Tryd.prog 19 = none := by kernel_rfl
theorem zero19 : zeroC Tryd.prog 19 = some [.pointer none] := by kernel_rfl
theorem field19_0 : fieldB Tryd.prog 19 0 = some (0, 17) := by kernel_rfl
theorem isAgg21 : isAggB Tryd.prog 21 = some false := by kernel_rfl
theorem tsz21 : (Tryd.prog.types[21]'(of_decide_eq_true (by kernel_rfl))).size = 1 := by kernel_rfl
theorem size21 : sizeB Tryd.prog 21 = some 1 := by kernel_rfl
theorem intK21 : intKindB Tryd.prog 21 = some .i32 := by kernel_rfl
theorem elem21 : elemB Tryd.prog 21 = none := by kernel_rfl
theorem zero21 : zeroC Tryd.prog 21 = some [.int .i32 0] := by kernel_rfl
theorem isAgg22 : isAggB Tryd.prog 22 = some false := by kernel_rfl
theorem tsz22 : (Tryd.prog.types[22]'(of_decide_eq_true (by kernel_rfl))).size = 1 := by kernel_rfl
theorem size22 : sizeB Tryd.prog 22 = some 1 := by kernel_rfl
theorem intK22 : intKindB Tryd.prog 22 = none := by kernel_rfl
theorem elem22 : elemB Tryd.prog 22 = some 5 := by kernel_rfl
theorem zero22 : zeroC Tryd.prog 22 = some [.slice none 0 0] := by kernel_rfl
theorem elty22 : eltyB Tryd.prog 22 = some (5, 1, 1, [.int .u8 0]) := by kernel_rfl
theorem isAgg26 : isAggB Tryd.prog 26 = some false := by kernel_rfl
theorem tsz26 : (Tryd.prog.types[26]'(of_decide_eq_true (by kernel_rfl))).size = 1 := by kernel_rfl
theorem size26 : sizeB Tryd.prog 26 = some 1 := by kernel_rfl
theorem intK26 : intKindB Tryd.prog 26 = some .i64 := by kernel_rfl
theorem elem26 : elemB Tryd.prog 26 = none := by kernel_rfl
theorem zero26 : zeroC Tryd.prog 26 = some [.int .i64 0] := by kernel_rfl
theorem isAgg33 : isAggB Tryd.prog 33 = some true := by kernel_rfl
theorem tsz33 : (Tryd.prog.types[33]'(of_decide_eq_true (by kernel_rfl))).size = 64 := by kernel_rfl
theorem size33 : sizeB Tryd.prog 33 = some 64 := by kernel_rfl
theorem intK33 : intKindB Tryd.prog 33 = none := by kernel_rfl
theorem elem33 : elemB Tryd.prog 33 = none := by kernel_rfl
theorem arr33 : arrB Tryd.prog 33 = some (64, 5) := by kernel_rfl
theorem zero33 : zeroC Tryd.prog 33 = some [.int .u8 0, .int .u8 0, .int .u8 0, .int .u8 0, .int .u8 0, .int .u8 0, .int .u8 0, .int .u8 0, .int .u8 0, .int .u8 0, .int .u8 0, .int .u8 0, .int .u8 0, .int .u8 0, .int .u8 0, .int .u8 0, .int .u8 0, .int .u8 0, .int .u8 0, .int .u8 0, .int .u8 0, .int .u8 0, .int .u8 0, .int .u8 0, .int .u8 0, .int .u8 0, .int .u8 0, .int .u8 0, .int .u8 0, .int .u8 0, .int .u8 0, .int .u8 0, .int .u8 0, .int .u8 0, .int .u8 0, .int .u8 0, .int .u8 0, .int .u8 0, .int .u8 0, .int .u8 0, .int .u8 0, .int .u8 0, .int .u8 0, .int .u8 0, .int .u8 0, .int .u8 0, .int .u8 0, .int .u8 0, .int .u8 0, .int .u8 0, .int .u8 0, .int .u8 0, .int .u8 0, .int .u8 0, .int .u8 0, .int .u8 0, .int .u8 0, .int .u8 0, .int .u8 0, .int .u8 0, .int .u8 0, .int .u8 0, .int .u8 0, .int .u8 0] := by kernel_rfl
theorem places33 : placesOf Tryd.prog 33 = some (fun i => some (i * 1, 1)) := by kernel_rfl
theorem isAgg42 : isAggB Tryd.prog 42 = some false := by kernel_rfl
theorem tsz42 : (Tryd.prog.types[42]'(of_decide_eq_true (by kernel_rfl))).size = 1 := by kernel_rfl
theorem size42 : sizeB Tryd.prog 42 = some 1 := by kernel_rfl
theorem intK42 : intKindB Tryd.prog 42 = some .u64 := by kernel_rfl
theorem elem42 : elemB Tryd.prog 42 = none := by kernel_rfl
theorem zero42 : zeroC Tryd.prog 42 = some [.int .u64 0] := by kernel_rfl
theorem isAgg43 : isAggB Tryd.prog 43 = some false := by kernel_rfl
theorem tsz43 : (Tryd.prog.types[43]'(of_decide_eq_true (by kernel_rfl))).size = 1 := by kernel_rfl
theorem size43 : sizeB Tryd.prog 43 = some 1 := by kernel_rfl
theorem intK43 : intKindB Tryd.prog 43 = some .u64 := by kernel_rfl
theorem elem43 : elemB Tryd.prog 43 = none := by kernel_rfl
theorem zero43 : zeroC Tryd.prog 43 = some [.int .u64 0] := by kernel_rfl
theorem isAgg44 : isAggB Tryd.prog 44 = some false := by kernel_rfl
theorem tsz44 : (Tryd.prog.types[44]'(of_decide_eq_true (by kernel_rfl))).size = 1 := by kernel_rfl
theorem size44 : sizeB Tryd.prog 44 = some 1 := by kernel_rfl
theorem intK44 : intKindB Tryd.prog 44 = some .u32 := by kernel_rfl
theorem elem44 : elemB Tryd.prog 44 = none := by kernel_rfl
theorem zero44 : zeroC Tryd.prog 44 = some [.int .u32 0] := by kernel_rfl
theorem isAgg45 : isAggB Tryd.prog 45 = some true := by kernel_rfl
theorem tsz45 : (Tryd.prog.types[45]'(of_decide_eq_true (by kernel_rfl))).size = 8 := by kernel_rfl
theorem size45 : sizeB Tryd.prog 45 = some 8 := by kernel_rfl
theorem intK45 : intKindB Tryd.prog 45 = none := by kernel_rfl
theorem elem45 : elemB Tryd.prog 45 = none := by kernel_rfl
theorem arr45 : arrB Tryd.prog 45 = some (8, 44) := by kernel_rfl
theorem zero45 : zeroC Tryd.prog 45 = some [.int .u32 0, .int .u32 0, .int .u32 0, .int .u32 0, .int .u32 0, .int .u32 0, .int .u32 0, .int .u32 0] := by kernel_rfl
theorem places45 : placesOf Tryd.prog 45 = some (fun i => some (i * 1, 1)) := by kernel_rfl
theorem isAgg50 : isAggB Tryd.prog 50 = some false := by kernel_rfl
theorem tsz50 : (Tryd.prog.types[50]'(of_decide_eq_true (by kernel_rfl))).size = 1 := by kernel_rfl
theorem size50 : sizeB Tryd.prog 50 = some 1 := by kernel_rfl
theorem intK50 : intKindB Tryd.prog 50 = none := by kernel_rfl
theorem elem50 : elemB Tryd.prog 50 = some 22 := by kernel_rfl
theorem zero50 : zeroC Tryd.prog 50 = some [.slice none 0 0] := by kernel_rfl
theorem elty50 : eltyB Tryd.prog 50 = some (22, 1, 24, [.slice none 0 0]) := by kernel_rfl
theorem isAgg53 : isAggB Tryd.prog 53 = some true := by kernel_rfl
theorem tsz53 : (Tryd.prog.types[53]'(of_decide_eq_true (by kernel_rfl))).size = 64 := by kernel_rfl
theorem size53 : sizeB Tryd.prog 53 = some 64 := by kernel_rfl
theorem intK53 : intKindB Tryd.prog 53 = none := by kernel_rfl
theorem elem53 : elemB Tryd.prog 53 = none := by kernel_rfl
theorem arr53 : arrB Tryd.prog 53 = some (64, 44) := by kernel_rfl
theorem zero53 : zeroC Tryd.prog 53 = some [.int .u32 0, .int .u32 0, .int .u32 0, .int .u32 0, .int .u32 0, .int .u32 0, .int .u32 0, .int .u32 0, .int .u32 0, .int .u32 0, .int .u32 0, .int .u32 0, .int .u32 0, .int .u32 0, .int .u32 0, .int .u32 0, .int .u32 0, .int .u32 0, .int .u32 0, .int .u32 0, .int .u32 0, .int .u32 0, .int .u32 0, .int .u32 0, .int .u32 0, .int .u32 0, .int .u32 0, .int .u32 0, .int .u32 0, .int .u32 0, .int .u32 0, .int .u32 0, .int .u32 0, .int .u32 0, .int .u32 0, .int .u32 0, .int .u32 0, .int .u32 0, .int .u32 0, .int .u32 0, .int .u32 0, .int .u32 0, .int .u32 0, .int .u32 0, .int .u32 0, .int .u32 0, .int .u32 0, .int .u32 0, .int .u32 0, .int .u32 0, .int .u32 0, .int .u32 0, .int .u32 0, .int .u32 0, .int .u32 0, .int .u32 0, .int .u32 0, .int .u32 0, .int .u32 0, .int .u32 0, .int .u32 0, .int .u32 0, .int .u32 0, .int .u32 0] := by kernel_rfl
theorem places53 : placesOf Tryd.prog 53 = some (fun i => some (i * 1, 1)) := by kernel_rfl
theorem isAgg57 : isAggB Tryd.prog 57 = some false := by kernel_rfl
theorem tsz57 : (Tryd.prog.types[57]'(of_decide_eq_true (by kernel_rfl))).size = 1 := by kernel_rfl
theorem size57 : sizeB Tryd.prog 57 = some 1 := by kernel_rfl
theorem intK57 : intKindB Tryd.prog 57 = none := by kernel_rfl
theorem elem57 : elemB Tryd.prog 57 = some 44 := by kernel_rfl
theorem zero57 : zeroC Tryd.prog 57 = some [.slice none 0 0] := by kernel_rfl
theorem elty57 : eltyB Tryd.prog 57 = some (44, 1, 4, [.int .u32 0]) := by kernel_rfl
theorem isAgg64 : isAggB Tryd.prog 64 = some true := by kernel_rfl
theorem tsz64 : (Tryd.prog.types[64]'(of_decide_eq_true (by kernel_rfl))).size = 4 := by kernel_rfl
theorem size64 : sizeB Tryd.prog 64 = some 4 := by kernel_rfl
theorem intK64 : intKindB Tryd.prog 64 = none := by kernel_rfl
theorem elem64 : elemB Tryd.prog 64 = none := by kernel_rfl
theorem zero64 : zeroC Tryd.prog 64 = some [.pointer none, .pointer none, .pointer none, .string ByteArray.empty] := by kernel_rfl
theorem field64_0 : fieldB Tryd.prog 64 0 = some (0, 17) := by kernel_rfl
theorem field64_1 : fieldB Tryd.prog 64 1 = some (1, 17) := by kernel_rfl
theorem field64_2 : fieldB Tryd.prog 64 2 = some (2, 17) := by kernel_rfl
theorem field64_3 : fieldB Tryd.prog 64 3 = some (3, 9) := by kernel_rfl
theorem isAgg65 : isAggB Tryd.prog 65 = some true := by kernel_rfl
theorem tsz65 : (Tryd.prog.types[65]'(of_decide_eq_true (by kernel_rfl))).size = 4 := by kernel_rfl
theorem size65 : sizeB Tryd.prog 65 = some 4 := by kernel_rfl
theorem intK65 : intKindB Tryd.prog 65 = none := by kernel_rfl
theorem elem65 : elemB Tryd.prog 65 = none := by kernel_rfl
theorem zero65 : zeroC Tryd.prog 65 = some [.pointer none, .pointer none, .pointer none, .string ByteArray.empty] := by kernel_rfl
theorem field65_0 : fieldB Tryd.prog 65 0 = some (0, 17) := by kernel_rfl
theorem field65_1 : fieldB Tryd.prog 65 1 = some (1, 17) := by kernel_rfl
theorem field65_2 : fieldB Tryd.prog 65 2 = some (2, 17) := by kernel_rfl
theorem field65_3 : fieldB Tryd.prog 65 3 = some (3, 9) := by kernel_rfl
theorem isAgg66 : isAggB Tryd.prog 66 = some true := by kernel_rfl
theorem tsz66 : (Tryd.prog.types[66]'(of_decide_eq_true (by kernel_rfl))).size = 0 := by kernel_rfl
theorem size66 : sizeB Tryd.prog 66 = some 0 := by kernel_rfl
theorem intK66 : intKindB Tryd.prog 66 = none := by kernel_rfl
theorem elem66 : elemB Tryd.prog 66 = none := by kernel_rfl
theorem arr66 : arrB Tryd.prog 66 = some (0, 16) := by kernel_rfl
theorem zero66 : zeroC Tryd.prog 66 = some [] := by kernel_rfl
theorem isAgg67 : isAggB Tryd.prog 67 = some true := by kernel_rfl
theorem tsz67 : (Tryd.prog.types[67]'(of_decide_eq_true (by kernel_rfl))).size = 0 := by kernel_rfl
theorem size67 : sizeB Tryd.prog 67 = some 0 := by kernel_rfl
theorem intK67 : intKindB Tryd.prog 67 = none := by kernel_rfl
theorem elem67 : elemB Tryd.prog 67 = none := by kernel_rfl
theorem zero67 : zeroC Tryd.prog 67 = some [] := by kernel_rfl
theorem field67_0 : fieldB Tryd.prog 67 0 = some (0, 66) := by kernel_rfl
theorem places67 : placesOf Tryd.prog 67 = some (fun i => (#[(0, 0)] : Array (Nat × Nat))[i]?) := by kernel_rfl
theorem isAgg68 : isAggB Tryd.prog 68 = some true := by kernel_rfl
theorem tsz68 : (Tryd.prog.types[68]'(of_decide_eq_true (by kernel_rfl))).size = 0 := by kernel_rfl
theorem size68 : sizeB Tryd.prog 68 = some 0 := by kernel_rfl
theorem intK68 : intKindB Tryd.prog 68 = none := by kernel_rfl
theorem elem68 : elemB Tryd.prog 68 = none := by kernel_rfl
theorem zero68 : zeroC Tryd.prog 68 = some [] := by kernel_rfl
theorem field68_0 : fieldB Tryd.prog 68 0 = some (0, 66) := by kernel_rfl
theorem places68 : placesOf Tryd.prog 68 = some (fun i => (#[(0, 0)] : Array (Nat × Nat))[i]?) := by kernel_rfl
theorem isAgg70 : isAggB Tryd.prog 70 = some false := by kernel_rfl
theorem tsz70 : (Tryd.prog.types[70]'(of_decide_eq_true (by kernel_rfl))).size = 1 := by kernel_rfl
theorem size70 : sizeB Tryd.prog 70 = some 1 := by kernel_rfl
theorem intK70 : intKindB Tryd.prog 70 = some .u8 := by kernel_rfl
theorem elem70 : elemB Tryd.prog 70 = none := by kernel_rfl
theorem und70 : Tryd.prog.underlying 70 = some (.int .u8) := by kernel_rfl
theorem zero70 : zeroC Tryd.prog 70 = some [.int .u8 0] := by kernel_rfl
theorem isAgg71 : isAggB Tryd.prog 71 = some false := by kernel_rfl
theorem tsz71 : (Tryd.prog.types[71]'(of_decide_eq_true (by kernel_rfl))).size = 1 := by kernel_rfl
theorem size71 : sizeB Tryd.prog 71 = some 1 := by kernel_rfl
theorem intK71 : intKindB Tryd.prog 71 = some .u8 := by kernel_rfl
theorem elem71 : elemB Tryd.prog 71 = none := by kernel_rfl
theorem und71 : Tryd.prog.underlying 71 = some (.int .u8) := by kernel_rfl
theorem zero71 : zeroC Tryd.prog 71 = some [.int .u8 0] := by kernel_rfl
theorem isAgg74 : isAggB Tryd.prog 74 = some false := by kernel_rfl
theorem tsz74 : (Tryd.prog.types[74]'(of_decide_eq_true (by kernel_rfl))).size = 1 := by kernel_rfl
theorem size74 : sizeB Tryd.prog 74 = some 1 := by kernel_rfl
theorem intK74 : intKindB Tryd.prog 74 = some .i32 := by kernel_rfl
theorem elem74 : elemB Tryd.prog 74 = none := by kernel_rfl
theorem zero74 : zeroC Tryd.prog 74 = some [.int .i32 0] := by kernel_rfl
theorem isAgg75 : isAggB Tryd.prog 75 = some false := by kernel_rfl
theorem tsz75 : (Tryd.prog.types[75]'(of_decide_eq_true (by kernel_rfl))).size = 1 := by kernel_rfl
theorem size75 : sizeB Tryd.prog 75 = some 1 := by kernel_rfl
theorem intK75 : intKindB Tryd.prog 75 = some .i32 := by kernel_rfl
theorem elem75 : elemB Tryd.prog 75 = none := by kernel_rfl
theorem zero75 : zeroC Tryd.prog 75 = some [.int .i32 0] := by kernel_rfl
theorem isAgg76 : isAggB Tryd.prog 76 = some true := by kernel_rfl
theorem tsz76 : (Tryd.prog.types[76]'(of_decide_eq_true (by kernel_rfl))).size = 11 := by kernel_rfl
theorem size76 : sizeB Tryd.prog 76 = some 11 := by kernel_rfl
theorem intK76 : intKindB Tryd.prog 76 = none := by kernel_rfl
theorem elem76 : elemB Tryd.prog 76 = none := by kernel_rfl
theorem zero76 : zeroC Tryd.prog 76 = some [.int .u64 0, .int .u64 0, .int .u32 0, .int .u8 0, .int .u8 0, .int .u8 0, .int .u8 0, .nilFunc, .pointer none, .int .i32 0, .int .i32 0] := by kernel_rfl
theorem field76_0 : fieldB Tryd.prog 76 0 = some (0, 12) := by kernel_rfl
theorem field76_1 : fieldB Tryd.prog 76 1 = some (1, 12) := by kernel_rfl
theorem field76_2 : fieldB Tryd.prog 76 2 = some (2, 44) := by kernel_rfl
theorem field76_3 : fieldB Tryd.prog 76 3 = some (3, 70) := by kernel_rfl
theorem field76_4 : fieldB Tryd.prog 76 4 = some (4, 5) := by kernel_rfl
theorem field76_5 : fieldB Tryd.prog 76 5 = some (5, 5) := by kernel_rfl
theorem field76_6 : fieldB Tryd.prog 76 6 = some (6, 71) := by kernel_rfl
theorem field76_7 : fieldB Tryd.prog 76 7 = some (7, 72) := by kernel_rfl
theorem field76_8 : fieldB Tryd.prog 76 8 = some (8, 73) := by kernel_rfl
theorem field76_9 : fieldB Tryd.prog 76 9 = some (9, 74) := by kernel_rfl
theorem field76_10 : fieldB Tryd.prog 76 10 = some (10, 75) := by kernel_rfl
theorem isAgg77 : isAggB Tryd.prog 77 = some true := by kernel_rfl
theorem tsz77 : (Tryd.prog.types[77]'(of_decide_eq_true (by kernel_rfl))).size = 11 := by kernel_rfl
theorem size77 : sizeB Tryd.prog 77 = some 11 := by kernel_rfl
theorem intK77 : intKindB Tryd.prog 77 = none := by kernel_rfl
theorem elem77 : elemB Tryd.prog 77 = none := by kernel_rfl
theorem zero77 : zeroC Tryd.prog 77 = some [.int .u64 0, .int .u64 0, .int .u32 0, .int .u8 0, .int .u8 0, .int .u8 0, .int .u8 0, .nilFunc, .pointer none, .int .i32 0, .int .i32 0] := by kernel_rfl
theorem field77_0 : fieldB Tryd.prog 77 0 = some (0, 12) := by kernel_rfl
theorem field77_1 : fieldB Tryd.prog 77 1 = some (1, 12) := by kernel_rfl
theorem field77_2 : fieldB Tryd.prog 77 2 = some (2, 44) := by kernel_rfl
theorem field77_3 : fieldB Tryd.prog 77 3 = some (3, 70) := by kernel_rfl
theorem field77_4 : fieldB Tryd.prog 77 4 = some (4, 5) := by kernel_rfl
theorem field77_5 : fieldB Tryd.prog 77 5 = some (5, 5) := by kernel_rfl
theorem field77_6 : fieldB Tryd.prog 77 6 = some (6, 71) := by kernel_rfl
theorem field77_7 : fieldB Tryd.prog 77 7 = some (7, 72) := by kernel_rfl
theorem field77_8 : fieldB Tryd.prog 77 8 = some (8, 73) := by kernel_rfl
theorem field77_9 : fieldB Tryd.prog 77 9 = some (9, 74) := by kernel_rfl
theorem field77_10 : fieldB Tryd.prog 77 10 = some (10, 75) := by kernel_rfl
theorem fnOk3 : FnOk Tryd.prog 3 := ⟨_, _, Tryd.func3, rfl, rfl⟩
theorem fnOk4 : FnOk Tryd.prog 4 := ⟨_, _, Tryd.func4, rfl, rfl⟩
theorem fnOk5 : FnOk Tryd.prog 5 := ⟨_, _, Tryd.func5, rfl, rfl⟩
theorem fnOk6 : FnOk Tryd.prog 6 := ⟨_, _, Tryd.func6, rfl, rfl⟩
theorem fnOk7 : FnOk Tryd.prog 7 := ⟨_, _, Tryd.func7, rfl, rfl⟩
theorem fnOk8 : FnOk Tryd.prog 8 := ⟨_, _, Tryd.func8, rfl, rfl⟩
theorem fnOk9 : FnOk Tryd.prog 9 := ⟨_, _, Tryd.func9, rfl, rfl⟩
theorem fnOk10 : FnOk Tryd.prog 10 := ⟨_, _, Tryd.func10, rfl, rfl⟩
theorem fnOk11 : FnOk Tryd.prog 11 := ⟨_, _, Tryd.func11, rfl, rfl⟩
theorem fnOk12 : FnOk Tryd.prog 12 := ⟨_, _, Tryd.func12, rfl, rfl⟩
theorem fnOk13 : FnOk Tryd.prog 13 := ⟨_, _, Tryd.func13, rfl, rfl⟩
theorem fnOk14 : FnOk Tryd.prog 14 := ⟨_, _, Tryd.func14, rfl, rfl⟩
theorem fnOk15 : FnOk Tryd.prog 15 := ⟨_, _, Tryd.func15, rfl, rfl⟩
theorem fnOk16 : FnOk Tryd.prog 16 := ⟨_, _, Tryd.func16, rfl, rfl⟩
theorem fnOk17 : FnOk Tryd.prog 17 := ⟨_, _, Tryd.func17, rfl, rfl⟩
theorem fnOk18 : FnOk Tryd.prog 18 := ⟨_, _, Tryd.func18, rfl, rfl⟩
theorem fnOk19 : FnOk Tryd.prog 19 := ⟨_, _, Tryd.func19, rfl, rfl⟩
theorem fnOk20 : FnOk Tryd.prog 20 := ⟨_, _, Tryd.func20, rfl, rfl⟩
theorem fnOk21 : FnOk Tryd.prog 21 := ⟨_, _, Tryd.func21, rfl, rfl⟩
theorem fnOk22 : FnOk Tryd.prog 22 := ⟨_, _, Tryd.func22, rfl, rfl⟩
theorem fnOk23 : FnOk Tryd.prog 23 := ⟨_, _, Tryd.func23, rfl, rfl⟩
theorem fnOk24 : FnOk Tryd.prog 24 := ⟨_, _, Tryd.func24, rfl, rfl⟩
theorem fnOk25 : FnOk Tryd.prog 25 := ⟨_, _, Tryd.func25, rfl, rfl⟩
theorem fnOk26 : FnOk Tryd.prog 26 := ⟨_, _, Tryd.func26, rfl, rfl⟩
theorem fnOk27 : FnOk Tryd.prog 27 := ⟨_, _, Tryd.func27, rfl, rfl⟩
theorem fnOk28 : FnOk Tryd.prog 28 := ⟨_, _, Tryd.func28, rfl, rfl⟩
theorem fnOk29 : FnOk Tryd.prog 29 := ⟨_, _, Tryd.func29, rfl, rfl⟩
theorem fnOk30 : FnOk Tryd.prog 30 := ⟨_, _, Tryd.func30, rfl, rfl⟩
theorem fnOk31 : FnOk Tryd.prog 31 := ⟨_, _, Tryd.func31, rfl, rfl⟩
theorem fnOk32 : FnOk Tryd.prog 32 := ⟨_, _, Tryd.func32, rfl, rfl⟩
theorem fnOk33 : FnOk Tryd.prog 33 := ⟨_, _, Tryd.func33, rfl, rfl⟩
theorem fnOk34 : FnOk Tryd.prog 34 := ⟨_, _, Tryd.func34, rfl, rfl⟩
theorem fnOk35 : FnOk Tryd.prog 35 := ⟨_, _, Tryd.func35, rfl, rfl⟩
theorem fnOk36 : FnOk Tryd.prog 36 := ⟨_, _, Tryd.func36, rfl, rfl⟩
theorem fnOk37 : FnOk Tryd.prog 37 := ⟨_, _, Tryd.func37, rfl, rfl⟩
theorem fnOk38 : FnOk Tryd.prog 38 := ⟨_, _, Tryd.func38, rfl, rfl⟩
theorem fnOk39 : FnOk Tryd.prog 39 := ⟨_, _, Tryd.func39, rfl, rfl⟩
theorem fnOk40 : FnOk Tryd.prog 40 := ⟨_, _, Tryd.func40, rfl, rfl⟩
theorem fnOk41 : FnOk Tryd.prog 41 := ⟨_, _, Tryd.func41, rfl, rfl⟩
theorem fnOk42 : FnOk Tryd.prog 42 := ⟨_, _, Tryd.func42, rfl, rfl⟩
theorem fnOk43 : FnOk Tryd.prog 43 := ⟨_, _, Tryd.func43, rfl, rfl⟩
theorem fnOk44 : FnOk Tryd.prog 44 := ⟨_, _, Tryd.func44, rfl, rfl⟩
theorem fnOk45 : FnOk Tryd.prog 45 := ⟨_, _, Tryd.func45, rfl, rfl⟩
theorem fnOk46 : FnOk Tryd.prog 46 := ⟨_, _, Tryd.func46, rfl, rfl⟩
theorem fnOk47 : FnOk Tryd.prog 47 := ⟨_, _, Tryd.func47, rfl, rfl⟩
theorem fnOk48 : FnOk Tryd.prog 48 := ⟨_, _, Tryd.func48, rfl, rfl⟩
theorem fnOk49 : FnOk Tryd.prog 49 := ⟨_, _, Tryd.func49, rfl, rfl⟩
theorem fnOk50 : FnOk Tryd.prog 50 := ⟨_, _, Tryd.func50, rfl, rfl⟩
theorem fnOk51 : FnOk Tryd.prog 51 := ⟨_, _, Tryd.func51, rfl, rfl⟩
theorem fnOk52 : FnOk Tryd.prog 52 := ⟨_, _, Tryd.func52, rfl, rfl⟩
theorem fnOk53 : FnOk Tryd.prog 53 := ⟨_, _, Tryd.func53, rfl, rfl⟩
end Go.Proofs.YtikeikkcgddmiaaDoor
