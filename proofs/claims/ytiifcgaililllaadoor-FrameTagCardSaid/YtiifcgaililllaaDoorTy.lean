/- Closed facts on the types of the program, for the walk over plain values. -/
import Derived.Test.YtiifcgaililllaaDoorPw16
import Derived.Test.YtiifcgaililllaaDoorProg
namespace Go.Proofs.YtiifcgaililllaaDoor
open Go Go.RowKit
theorem isAgg2 : isAggB Tryd.prog 2 = some false := by kernel_rfl
theorem tsz2 : (Tryd.prog.types[2]'(of_decide_eq_true (by kernel_rfl))).size = 1 := by kernel_rfl
theorem size2 : sizeB Tryd.prog 2 = some 1 := by kernel_rfl
theorem intK2 : intKindB Tryd.prog 2 = some .i64 := by kernel_rfl
theorem elem2 : elemB Tryd.prog 2 = none := by kernel_rfl
theorem zero2 : zeroC Tryd.prog 2 = some [.int .i64 0] := by kernel_rfl
theorem isAgg3 : isAggB Tryd.prog 3 = some false := by kernel_rfl
theorem tsz3 : (Tryd.prog.types[3]'(of_decide_eq_true (by kernel_rfl))).size = 1 := by kernel_rfl
theorem size3 : sizeB Tryd.prog 3 = some 1 := by kernel_rfl
theorem intK3 : intKindB Tryd.prog 3 = some .i64 := by kernel_rfl
theorem elem3 : elemB Tryd.prog 3 = none := by kernel_rfl
theorem zero3 : zeroC Tryd.prog 3 = some [.int .i64 0] := by kernel_rfl
theorem isAgg4 : isAggB Tryd.prog 4 = some false := by kernel_rfl
theorem tsz4 : (Tryd.prog.types[4]'(of_decide_eq_true (by kernel_rfl))).size = 1 := by kernel_rfl
theorem size4 : sizeB Tryd.prog 4 = some 1 := by kernel_rfl
theorem intK4 : intKindB Tryd.prog 4 = none := by kernel_rfl
theorem elem4 : elemB Tryd.prog 4 = none := by kernel_rfl
theorem und4 : Tryd.prog.underlying 4 = some .bool := by kernel_rfl
theorem zero4 : zeroC Tryd.prog 4 = some [.bool false] := by kernel_rfl
theorem isAgg5 : isAggB Tryd.prog 5 = some false := by kernel_rfl
theorem tsz5 : (Tryd.prog.types[5]'(of_decide_eq_true (by kernel_rfl))).size = 1 := by kernel_rfl
theorem size5 : sizeB Tryd.prog 5 = some 1 := by kernel_rfl
theorem intK5 : intKindB Tryd.prog 5 = some .u8 := by kernel_rfl
theorem elem5 : elemB Tryd.prog 5 = none := by kernel_rfl
theorem und5 : Tryd.prog.underlying 5 = some (.int .u8) := by kernel_rfl
theorem zero5 : zeroC Tryd.prog 5 = some [.int .u8 0] := by kernel_rfl
theorem isAgg6 : isAggB Tryd.prog 6 = some false := by kernel_rfl
theorem tsz6 : (Tryd.prog.types[6]'(of_decide_eq_true (by kernel_rfl))).size = 1 := by kernel_rfl
theorem size6 : sizeB Tryd.prog 6 = some 1 := by kernel_rfl
theorem intK6 : intKindB Tryd.prog 6 = some .u8 := by kernel_rfl
theorem elem6 : elemB Tryd.prog 6 = none := by kernel_rfl
theorem und6 : Tryd.prog.underlying 6 = some (.int .u8) := by kernel_rfl
theorem zero6 : zeroC Tryd.prog 6 = some [.int .u8 0] := by kernel_rfl
theorem isAgg7 : isAggB Tryd.prog 7 = some true := by kernel_rfl
theorem tsz7 : (Tryd.prog.types[7]'(of_decide_eq_true (by kernel_rfl))).size = 4 := by kernel_rfl
theorem size7 : sizeB Tryd.prog 7 = some 4 := by kernel_rfl
theorem intK7 : intKindB Tryd.prog 7 = none := by kernel_rfl
theorem elem7 : elemB Tryd.prog 7 = none := by kernel_rfl
theorem zero7 : zeroC Tryd.prog 7 = some [.int .i64 0, .int .i64 0, .bool false, .int .u8 0] := by kernel_rfl
theorem field7_0 : fieldB Tryd.prog 7 0 = some (0, 2) := by kernel_rfl
theorem field7_1 : fieldB Tryd.prog 7 1 = some (1, 3) := by kernel_rfl
theorem field7_2 : fieldB Tryd.prog 7 2 = some (2, 4) := by kernel_rfl
theorem field7_3 : fieldB Tryd.prog 7 3 = some (3, 6) := by kernel_rfl
theorem places7 : placesOf Tryd.prog 7 = some (fun i => (#[(0, 1), (1, 1), (2, 1), (3, 1)] : Array (Nat × Nat))[i]?) := by kernel_rfl
theorem isAgg8 : isAggB Tryd.prog 8 = some true := by kernel_rfl
theorem tsz8 : (Tryd.prog.types[8]'(of_decide_eq_true (by kernel_rfl))).size = 4 := by kernel_rfl
theorem size8 : sizeB Tryd.prog 8 = some 4 := by kernel_rfl
theorem intK8 : intKindB Tryd.prog 8 = none := by kernel_rfl
theorem elem8 : elemB Tryd.prog 8 = none := by kernel_rfl
theorem zero8 : zeroC Tryd.prog 8 = some [.int .i64 0, .int .i64 0, .bool false, .int .u8 0] := by kernel_rfl
theorem field8_0 : fieldB Tryd.prog 8 0 = some (0, 2) := by kernel_rfl
theorem field8_1 : fieldB Tryd.prog 8 1 = some (1, 3) := by kernel_rfl
theorem field8_2 : fieldB Tryd.prog 8 2 = some (2, 4) := by kernel_rfl
theorem field8_3 : fieldB Tryd.prog 8 3 = some (3, 6) := by kernel_rfl
theorem places8 : placesOf Tryd.prog 8 = some (fun i => (#[(0, 1), (1, 1), (2, 1), (3, 1)] : Array (Nat × Nat))[i]?) := by kernel_rfl
theorem isAgg9 : isAggB Tryd.prog 9 = some false := by kernel_rfl
theorem tsz9 : (Tryd.prog.types[9]'(of_decide_eq_true (by kernel_rfl))).size = 1 := by kernel_rfl
theorem size9 : sizeB Tryd.prog 9 = some 1 := by kernel_rfl
theorem intK9 : intKindB Tryd.prog 9 = none := by kernel_rfl
theorem elem9 : elemB Tryd.prog 9 = none := by kernel_rfl
theorem und9 : Tryd.prog.underlying 9 = some .string := by kernel_rfl
theorem zero9 : zeroC Tryd.prog 9 = some [.string ByteArray.empty] := by kernel_rfl
theorem isAgg10 : isAggB Tryd.prog 10 = some false := by kernel_rfl
theorem tsz10 : (Tryd.prog.types[10]'(of_decide_eq_true (by kernel_rfl))).size = 1 := by kernel_rfl
theorem size10 : sizeB Tryd.prog 10 = some 1 := by kernel_rfl
theorem intK10 : intKindB Tryd.prog 10 = none := by kernel_rfl
theorem elem10 : elemB Tryd.prog 10 = none := by kernel_rfl
theorem und10 : Tryd.prog.underlying 10 = some .string := by kernel_rfl
theorem zero10 : zeroC Tryd.prog 10 = some [.string ByteArray.empty] := by kernel_rfl
theorem isAgg11 : isAggB Tryd.prog 11 = some false := by kernel_rfl
theorem tsz11 : (Tryd.prog.types[11]'(of_decide_eq_true (by kernel_rfl))).size = 1 := by kernel_rfl
theorem size11 : sizeB Tryd.prog 11 = some 1 := by kernel_rfl
theorem intK11 : intKindB Tryd.prog 11 = none := by kernel_rfl
theorem elem11 : elemB Tryd.prog 11 = none := by kernel_rfl
theorem und11 : Tryd.prog.underlying 11 = some .string := by kernel_rfl
theorem zero11 : zeroC Tryd.prog 11 = some [.string ByteArray.empty] := by kernel_rfl
theorem isAgg12 : isAggB Tryd.prog 12 = some false := by kernel_rfl
theorem tsz12 : (Tryd.prog.types[12]'(of_decide_eq_true (by kernel_rfl))).size = 1 := by kernel_rfl
theorem size12 : sizeB Tryd.prog 12 = some 1 := by kernel_rfl
theorem intK12 : intKindB Tryd.prog 12 = some .u64 := by kernel_rfl
theorem elem12 : elemB Tryd.prog 12 = none := by kernel_rfl
theorem zero12 : zeroC Tryd.prog 12 = some [.int .u64 0] := by kernel_rfl
theorem isAgg13 : isAggB Tryd.prog 13 = some true := by kernel_rfl
theorem tsz13 : (Tryd.prog.types[13]'(of_decide_eq_true (by kernel_rfl))).size = 2 := by kernel_rfl
theorem size13 : sizeB Tryd.prog 13 = some 2 := by kernel_rfl
theorem intK13 : intKindB Tryd.prog 13 = none := by kernel_rfl
theorem elem13 : elemB Tryd.prog 13 = none := by kernel_rfl
theorem zero13 : zeroC Tryd.prog 13 = some [.string ByteArray.empty, .int .u64 0] := by kernel_rfl
theorem field13_0 : fieldB Tryd.prog 13 0 = some (0, 9) := by kernel_rfl
theorem field13_1 : fieldB Tryd.prog 13 1 = some (1, 12) := by kernel_rfl
theorem places13 : placesOf Tryd.prog 13 = some (fun i => (#[(0, 1), (1, 1)] : Array (Nat × Nat))[i]?) := by kernel_rfl
theorem isAgg14 : isAggB Tryd.prog 14 = some true := by kernel_rfl
theorem tsz14 : (Tryd.prog.types[14]'(of_decide_eq_true (by kernel_rfl))).size = 2 := by kernel_rfl
theorem size14 : sizeB Tryd.prog 14 = some 2 := by kernel_rfl
theorem intK14 : intKindB Tryd.prog 14 = none := by kernel_rfl
theorem elem14 : elemB Tryd.prog 14 = none := by kernel_rfl
theorem zero14 : zeroC Tryd.prog 14 = some [.string ByteArray.empty, .int .u64 0] := by kernel_rfl
theorem field14_0 : fieldB Tryd.prog 14 0 = some (0, 9) := by kernel_rfl
theorem field14_1 : fieldB Tryd.prog 14 1 = some (1, 12) := by kernel_rfl
theorem places14 : placesOf Tryd.prog 14 = some (fun i => (#[(0, 1), (1, 1)] : Array (Nat × Nat))[i]?) := by kernel_rfl
theorem isAgg18 : isAggB Tryd.prog 18 = some true := by kernel_rfl
theorem tsz18 : (Tryd.prog.types[18]'(of_decide_eq_true (by kernel_rfl))).size = 1 := by kernel_rfl
theorem size18 : sizeB Tryd.prog 18 = some 1 := by kernel_rfl
theorem intK18 : intKindB Tryd.prog 18 = none := by kernel_rfl
theorem elem18 : elemB Tryd.prog 18 = none := by kernel_rfl
theorem zero18 : zeroC Tryd.prog 18 = some [.pointer none] := by kernel_rfl
theorem field18_0 : fieldB Tryd.prog 18 0 = some (0, 17) := by kernel_rfl
theorem isAgg19 : isAggB Tryd.prog 19 = some true := by kernel_rfl
theorem tsz19 : (Tryd.prog.types[19]'(of_decide_eq_true (by kernel_rfl))).size = 1 := by kernel_rfl
theorem size19 : sizeB Tryd.prog 19 = some 1 := by kernel_rfl
theorem intK19 : intKindB Tryd.prog 19 = none := by kernel_rfl
theorem elem19 : elemB Tryd.prog 19 = none := by kernel_rfl
theorem zero19 : zeroC Tryd.prog 19 = some [.pointer none] := by kernel_rfl
theorem field19_0 : fieldB Tryd.prog 19 0 = some (0, 17) := by kernel_rfl
theorem isAgg21 : isAggB Tryd.prog 21 = some false := by kernel_rfl
theorem tsz21 : (Tryd.prog.types[21]'(of_decide_eq_true (by kernel_rfl))).size = 1 := by kernel_rfl
theorem size21 : sizeB Tryd.prog 21 = some 1 := by kernel_rfl
theorem intK21 : intKindB Tryd.prog 21 = some .i32 := by kernel_rfl
theorem elem21 : elemB Tryd.prog 21 = none := by kernel_rfl
theorem zero21 : zeroC Tryd.prog 21 = some [.int .i32 0] := by kernel_rfl
theorem isAgg22 : isAggB Tryd.prog 22 = some false := by kernel_rfl
theorem tsz22 : (Tryd.prog.types[22]'(of_decide_eq_true (by kernel_rfl))).size = 1 := by kernel_rfl
theorem size22 : sizeB Tryd.prog 22 = some 1 := by kernel_rfl
theorem intK22 : intKindB Tryd.prog 22 = none := by kernel_rfl
theorem elem22 : elemB Tryd.prog 22 = some 5 := by kernel_rfl
theorem zero22 : zeroC Tryd.prog 22 = some [.slice none 0 0] := by kernel_rfl
theorem elty22 : eltyB Tryd.prog 22 = some (5, 1, 1, [.int .u8 0]) := by kernel_rfl
theorem isAgg23 : isAggB Tryd.prog 23 = some false := by kernel_rfl
theorem tsz23 : (Tryd.prog.types[23]'(of_decide_eq_true (by kernel_rfl))).size = 1 := by kernel_rfl
theorem size23 : sizeB Tryd.prog 23 = some 1 := by kernel_rfl
theorem intK23 : intKindB Tryd.prog 23 = some .u64 := by kernel_rfl
theorem elem23 : elemB Tryd.prog 23 = none := by kernel_rfl
theorem zero23 : zeroC Tryd.prog 23 = some [.int .u64 0] := by kernel_rfl
theorem isAgg24 : isAggB Tryd.prog 24 = some false := by kernel_rfl
theorem tsz24 : (Tryd.prog.types[24]'(of_decide_eq_true (by kernel_rfl))).size = 1 := by kernel_rfl
theorem size24 : sizeB Tryd.prog 24 = some 1 := by kernel_rfl
theorem intK24 : intKindB Tryd.prog 24 = none := by kernel_rfl
theorem elem24 : elemB Tryd.prog 24 = some 3 := by kernel_rfl
theorem zero24 : zeroC Tryd.prog 24 = some [.slice none 0 0] := by kernel_rfl
theorem elty24 : eltyB Tryd.prog 24 = some (3, 1, 8, [.int .i64 0]) := by kernel_rfl
theorem isAgg25 : isAggB Tryd.prog 25 = some true := by kernel_rfl
theorem tsz25 : (Tryd.prog.types[25]'(of_decide_eq_true (by kernel_rfl))).size = 3 := by kernel_rfl
theorem size25 : sizeB Tryd.prog 25 = some 3 := by kernel_rfl
theorem intK25 : intKindB Tryd.prog 25 = none := by kernel_rfl
theorem elem25 : elemB Tryd.prog 25 = none := by kernel_rfl
theorem zero25 : zeroC Tryd.prog 25 = some [.int .u64 0, .int .u64 0, .slice none 0 0] := by kernel_rfl
theorem field25_0 : fieldB Tryd.prog 25 0 = some (0, 23) := by kernel_rfl
theorem field25_1 : fieldB Tryd.prog 25 1 = some (1, 23) := by kernel_rfl
theorem field25_2 : fieldB Tryd.prog 25 2 = some (2, 24) := by kernel_rfl
theorem places25 : placesOf Tryd.prog 25 = some (fun i => (#[(0, 1), (1, 1), (2, 1)] : Array (Nat × Nat))[i]?) := by kernel_rfl
theorem isAgg26 : isAggB Tryd.prog 26 = some true := by kernel_rfl
theorem tsz26 : (Tryd.prog.types[26]'(of_decide_eq_true (by kernel_rfl))).size = 3 := by kernel_rfl
theorem size26 : sizeB Tryd.prog 26 = some 3 := by kernel_rfl
theorem intK26 : intKindB Tryd.prog 26 = none := by kernel_rfl
theorem elem26 : elemB Tryd.prog 26 = none := by kernel_rfl
theorem zero26 : zeroC Tryd.prog 26 = some [.int .u64 0, .int .u64 0, .slice none 0 0] := by kernel_rfl
theorem field26_0 : fieldB Tryd.prog 26 0 = some (0, 23) := by kernel_rfl
theorem field26_1 : fieldB Tryd.prog 26 1 = some (1, 23) := by kernel_rfl
theorem field26_2 : fieldB Tryd.prog 26 2 = some (2, 24) := by kernel_rfl
theorem places26 : placesOf Tryd.prog 26 = some (fun i => (#[(0, 1), (1, 1), (2, 1)] : Array (Nat × Nat))[i]?) := by kernel_rfl
theorem isAgg27 : isAggB Tryd.prog 27 = some true := by kernel_rfl
theorem tsz27 : (Tryd.prog.types[27]'(of_decide_eq_true (by kernel_rfl))).size = 8 := by kernel_rfl
theorem size27 : sizeB Tryd.prog 27 = some 8 := by kernel_rfl
theorem intK27 : intKindB Tryd.prog 27 = none := by kernel_rfl
theorem elem27 : elemB Tryd.prog 27 = none := by kernel_rfl
theorem zero27 : zeroC Tryd.prog 27 = some [.int .i64 0, .int .i64 0, .int .u64 0, .int .u64 0, .slice none 0 0, .int .i64 0, .int .i64 0, .slice none 0 0] := by kernel_rfl
theorem field27_0 : fieldB Tryd.prog 27 0 = some (0, 3) := by kernel_rfl
theorem field27_1 : fieldB Tryd.prog 27 1 = some (1, 3) := by kernel_rfl
theorem field27_2 : fieldB Tryd.prog 27 2 = some (2, 26) := by kernel_rfl
theorem field27_3 : fieldB Tryd.prog 27 3 = some (5, 3) := by kernel_rfl
theorem field27_4 : fieldB Tryd.prog 27 4 = some (6, 3) := by kernel_rfl
theorem field27_5 : fieldB Tryd.prog 27 5 = some (7, 22) := by kernel_rfl
theorem places27 : placesOf Tryd.prog 27 = some (fun i => (#[(0, 1), (1, 1), (2, 3), (5, 1), (6, 1), (7, 1)] : Array (Nat × Nat))[i]?) := by kernel_rfl
theorem isAgg28 : isAggB Tryd.prog 28 = some true := by kernel_rfl
theorem tsz28 : (Tryd.prog.types[28]'(of_decide_eq_true (by kernel_rfl))).size = 8 := by kernel_rfl
theorem size28 : sizeB Tryd.prog 28 = some 8 := by kernel_rfl
theorem intK28 : intKindB Tryd.prog 28 = none := by kernel_rfl
theorem elem28 : elemB Tryd.prog 28 = none := by kernel_rfl
theorem zero28 : zeroC Tryd.prog 28 = some [.int .i64 0, .int .i64 0, .int .u64 0, .int .u64 0, .slice none 0 0, .int .i64 0, .int .i64 0, .slice none 0 0] := by kernel_rfl
theorem field28_0 : fieldB Tryd.prog 28 0 = some (0, 3) := by kernel_rfl
theorem field28_1 : fieldB Tryd.prog 28 1 = some (1, 3) := by kernel_rfl
theorem field28_2 : fieldB Tryd.prog 28 2 = some (2, 26) := by kernel_rfl
theorem field28_3 : fieldB Tryd.prog 28 3 = some (5, 3) := by kernel_rfl
theorem field28_4 : fieldB Tryd.prog 28 4 = some (6, 3) := by kernel_rfl
theorem field28_5 : fieldB Tryd.prog 28 5 = some (7, 22) := by kernel_rfl
theorem places28 : placesOf Tryd.prog 28 = some (fun i => (#[(0, 1), (1, 1), (2, 3), (5, 1), (6, 1), (7, 1)] : Array (Nat × Nat))[i]?) := by kernel_rfl
theorem isAgg31 : isAggB Tryd.prog 31 = some false := by kernel_rfl
theorem tsz31 : (Tryd.prog.types[31]'(of_decide_eq_true (by kernel_rfl))).size = 1 := by kernel_rfl
theorem size31 : sizeB Tryd.prog 31 = some 1 := by kernel_rfl
theorem intK31 : intKindB Tryd.prog 31 = some .i64 := by kernel_rfl
theorem elem31 : elemB Tryd.prog 31 = none := by kernel_rfl
theorem zero31 : zeroC Tryd.prog 31 = some [.int .i64 0] := by kernel_rfl
theorem isAgg42 : isAggB Tryd.prog 42 = some true := by kernel_rfl
theorem tsz42 : (Tryd.prog.types[42]'(of_decide_eq_true (by kernel_rfl))).size = 32 := by kernel_rfl
theorem size42 : sizeB Tryd.prog 42 = some 32 := by kernel_rfl
theorem intK42 : intKindB Tryd.prog 42 = none := by kernel_rfl
theorem elem42 : elemB Tryd.prog 42 = none := by kernel_rfl
theorem arr42 : arrB Tryd.prog 42 = some (32, 5) := by kernel_rfl
theorem zero42 : zeroC Tryd.prog 42 = some [.int .u8 0, .int .u8 0, .int .u8 0, .int .u8 0, .int .u8 0, .int .u8 0, .int .u8 0, .int .u8 0, .int .u8 0, .int .u8 0, .int .u8 0, .int .u8 0, .int .u8 0, .int .u8 0, .int .u8 0, .int .u8 0, .int .u8 0, .int .u8 0, .int .u8 0, .int .u8 0, .int .u8 0, .int .u8 0, .int .u8 0, .int .u8 0, .int .u8 0, .int .u8 0, .int .u8 0, .int .u8 0, .int .u8 0, .int .u8 0, .int .u8 0, .int .u8 0] := by kernel_rfl
theorem places42 : placesOf Tryd.prog 42 = some (fun i => some (i * 1, 1)) := by kernel_rfl
theorem isAgg62 : isAggB Tryd.prog 62 = some false := by kernel_rfl
theorem tsz62 : (Tryd.prog.types[62]'(of_decide_eq_true (by kernel_rfl))).size = 1 := by kernel_rfl
theorem size62 : sizeB Tryd.prog 62 = some 1 := by kernel_rfl
theorem intK62 : intKindB Tryd.prog 62 = none := by kernel_rfl
theorem elem62 : elemB Tryd.prog 62 = some 22 := by kernel_rfl
theorem zero62 : zeroC Tryd.prog 62 = some [.slice none 0 0] := by kernel_rfl
theorem elty62 : eltyB Tryd.prog 62 = some (22, 1, 24, [.slice none 0 0]) := by kernel_rfl
theorem isAgg64 : isAggB Tryd.prog 64 = some true := by kernel_rfl
theorem tsz64 : (Tryd.prog.types[64]'(of_decide_eq_true (by kernel_rfl))).size = 17 := by kernel_rfl
theorem size64 : sizeB Tryd.prog 64 = some 17 := by kernel_rfl
theorem intK64 : intKindB Tryd.prog 64 = none := by kernel_rfl
theorem elem64 : elemB Tryd.prog 64 = none := by kernel_rfl
theorem arr64 : arrB Tryd.prog 64 = some (17, 4) := by kernel_rfl
theorem zero64 : zeroC Tryd.prog 64 = some [.bool false, .bool false, .bool false, .bool false, .bool false, .bool false, .bool false, .bool false, .bool false, .bool false, .bool false, .bool false, .bool false, .bool false, .bool false, .bool false, .bool false] := by kernel_rfl
theorem places64 : placesOf Tryd.prog 64 = some (fun i => some (i * 1, 1)) := by kernel_rfl
theorem isAgg68 : isAggB Tryd.prog 68 = some false := by kernel_rfl
theorem tsz68 : (Tryd.prog.types[68]'(of_decide_eq_true (by kernel_rfl))).size = 1 := by kernel_rfl
theorem size68 : sizeB Tryd.prog 68 = some 1 := by kernel_rfl
theorem intK68 : intKindB Tryd.prog 68 = some .u32 := by kernel_rfl
theorem elem68 : elemB Tryd.prog 68 = none := by kernel_rfl
theorem zero68 : zeroC Tryd.prog 68 = some [.int .u32 0] := by kernel_rfl
theorem isAgg69 : isAggB Tryd.prog 69 = some true := by kernel_rfl
theorem tsz69 : (Tryd.prog.types[69]'(of_decide_eq_true (by kernel_rfl))).size = 8 := by kernel_rfl
theorem size69 : sizeB Tryd.prog 69 = some 8 := by kernel_rfl
theorem intK69 : intKindB Tryd.prog 69 = none := by kernel_rfl
theorem elem69 : elemB Tryd.prog 69 = none := by kernel_rfl
theorem arr69 : arrB Tryd.prog 69 = some (8, 68) := by kernel_rfl
theorem zero69 : zeroC Tryd.prog 69 = some [.int .u32 0, .int .u32 0, .int .u32 0, .int .u32 0, .int .u32 0, .int .u32 0, .int .u32 0, .int .u32 0] := by kernel_rfl
theorem places69 : placesOf Tryd.prog 69 = some (fun i => some (i * 1, 1)) := by kernel_rfl
theorem isAgg76 : isAggB Tryd.prog 76 = some false := by kernel_rfl
theorem tsz76 : (Tryd.prog.types[76]'(of_decide_eq_true (by kernel_rfl))).size = 1 := by kernel_rfl
theorem size76 : sizeB Tryd.prog 76 = some 1 := by kernel_rfl
theorem intK76 : intKindB Tryd.prog 76 = some .u64 := by kernel_rfl
theorem elem76 : elemB Tryd.prog 76 = none := by kernel_rfl
theorem zero76 : zeroC Tryd.prog 76 = some [.int .u64 0] := by kernel_rfl
theorem isAgg80 : isAggB Tryd.prog 80 = some true := by kernel_rfl
theorem tsz80 : (Tryd.prog.types[80]'(of_decide_eq_true (by kernel_rfl))).size = 64 := by kernel_rfl
theorem size80 : sizeB Tryd.prog 80 = some 64 := by kernel_rfl
theorem intK80 : intKindB Tryd.prog 80 = none := by kernel_rfl
theorem elem80 : elemB Tryd.prog 80 = none := by kernel_rfl
theorem arr80 : arrB Tryd.prog 80 = some (64, 68) := by kernel_rfl
theorem zero80 : zeroC Tryd.prog 80 = some [.int .u32 0, .int .u32 0, .int .u32 0, .int .u32 0, .int .u32 0, .int .u32 0, .int .u32 0, .int .u32 0, .int .u32 0, .int .u32 0, .int .u32 0, .int .u32 0, .int .u32 0, .int .u32 0, .int .u32 0, .int .u32 0, .int .u32 0, .int .u32 0, .int .u32 0, .int .u32 0, .int .u32 0, .int .u32 0, .int .u32 0, .int .u32 0, .int .u32 0, .int .u32 0, .int .u32 0, .int .u32 0, .int .u32 0, .int .u32 0, .int .u32 0, .int .u32 0, .int .u32 0, .int .u32 0, .int .u32 0, .int .u32 0, .int .u32 0, .int .u32 0, .int .u32 0, .int .u32 0, .int .u32 0, .int .u32 0, .int .u32 0, .int .u32 0, .int .u32 0, .int .u32 0, .int .u32 0, .int .u32 0, .int .u32 0, .int .u32 0, .int .u32 0, .int .u32 0, .int .u32 0, .int .u32 0, .int .u32 0, .int .u32 0, .int .u32 0, .int .u32 0, .int .u32 0, .int .u32 0, .int .u32 0, .int .u32 0, .int .u32 0, .int .u32 0] := by kernel_rfl
theorem places80 : placesOf Tryd.prog 80 = some (fun i => some (i * 1, 1)) := by kernel_rfl
theorem isAgg88 : isAggB Tryd.prog 88 = some false := by kernel_rfl
theorem tsz88 : (Tryd.prog.types[88]'(of_decide_eq_true (by kernel_rfl))).size = 1 := by kernel_rfl
theorem size88 : sizeB Tryd.prog 88 = some 1 := by kernel_rfl
theorem intK88 : intKindB Tryd.prog 88 = none := by kernel_rfl
theorem elem88 : elemB Tryd.prog 88 = some 68 := by kernel_rfl
theorem zero88 : zeroC Tryd.prog 88 = some [.slice none 0 0] := by kernel_rfl
theorem elty88 : eltyB Tryd.prog 88 = some (68, 1, 4, [.int .u32 0]) := by kernel_rfl
theorem isAgg92 : isAggB Tryd.prog 92 = some true := by kernel_rfl
theorem tsz92 : (Tryd.prog.types[92]'(of_decide_eq_true (by kernel_rfl))).size = 4 := by kernel_rfl
theorem size92 : sizeB Tryd.prog 92 = some 4 := by kernel_rfl
theorem intK92 : intKindB Tryd.prog 92 = none := by kernel_rfl
theorem elem92 : elemB Tryd.prog 92 = none := by kernel_rfl
theorem zero92 : zeroC Tryd.prog 92 = some [.pointer none, .pointer none, .pointer none, .string ByteArray.empty] := by kernel_rfl
theorem field92_0 : fieldB Tryd.prog 92 0 = some (0, 17) := by kernel_rfl
theorem field92_1 : fieldB Tryd.prog 92 1 = some (1, 17) := by kernel_rfl
theorem field92_2 : fieldB Tryd.prog 92 2 = some (2, 17) := by kernel_rfl
theorem field92_3 : fieldB Tryd.prog 92 3 = some (3, 9) := by kernel_rfl
theorem isAgg93 : isAggB Tryd.prog 93 = some true := by kernel_rfl
theorem tsz93 : (Tryd.prog.types[93]'(of_decide_eq_true (by kernel_rfl))).size = 4 := by kernel_rfl
theorem size93 : sizeB Tryd.prog 93 = some 4 := by kernel_rfl
theorem intK93 : intKindB Tryd.prog 93 = none := by kernel_rfl
theorem elem93 : elemB Tryd.prog 93 = none := by kernel_rfl
theorem zero93 : zeroC Tryd.prog 93 = some [.pointer none, .pointer none, .pointer none, .string ByteArray.empty] := by kernel_rfl
theorem field93_0 : fieldB Tryd.prog 93 0 = some (0, 17) := by kernel_rfl
theorem field93_1 : fieldB Tryd.prog 93 1 = some (1, 17) := by kernel_rfl
theorem field93_2 : fieldB Tryd.prog 93 2 = some (2, 17) := by kernel_rfl
theorem field93_3 : fieldB Tryd.prog 93 3 = some (3, 9) := by kernel_rfl
theorem isAgg94 : isAggB Tryd.prog 94 = some true := by kernel_rfl
theorem tsz94 : (Tryd.prog.types[94]'(of_decide_eq_true (by kernel_rfl))).size = 0 := by kernel_rfl
theorem size94 : sizeB Tryd.prog 94 = some 0 := by kernel_rfl
theorem intK94 : intKindB Tryd.prog 94 = none := by kernel_rfl
theorem elem94 : elemB Tryd.prog 94 = none := by kernel_rfl
theorem arr94 : arrB Tryd.prog 94 = some (0, 16) := by kernel_rfl
theorem zero94 : zeroC Tryd.prog 94 = some [] := by kernel_rfl
theorem isAgg95 : isAggB Tryd.prog 95 = some true := by kernel_rfl
theorem tsz95 : (Tryd.prog.types[95]'(of_decide_eq_true (by kernel_rfl))).size = 0 := by kernel_rfl
theorem size95 : sizeB Tryd.prog 95 = some 0 := by kernel_rfl
theorem intK95 : intKindB Tryd.prog 95 = none := by kernel_rfl
theorem elem95 : elemB Tryd.prog 95 = none := by kernel_rfl
theorem zero95 : zeroC Tryd.prog 95 = some [] := by kernel_rfl
theorem field95_0 : fieldB Tryd.prog 95 0 = some (0, 94) := by kernel_rfl
theorem places95 : placesOf Tryd.prog 95 = some (fun i => (#[(0, 0)] : Array (Nat × Nat))[i]?) := by kernel_rfl
theorem isAgg96 : isAggB Tryd.prog 96 = some true := by kernel_rfl
theorem tsz96 : (Tryd.prog.types[96]'(of_decide_eq_true (by kernel_rfl))).size = 0 := by kernel_rfl
theorem size96 : sizeB Tryd.prog 96 = some 0 := by kernel_rfl
theorem intK96 : intKindB Tryd.prog 96 = none := by kernel_rfl
theorem elem96 : elemB Tryd.prog 96 = none := by kernel_rfl
theorem zero96 : zeroC Tryd.prog 96 = some [] := by kernel_rfl
theorem field96_0 : fieldB Tryd.prog 96 0 = some (0, 94) := by kernel_rfl
theorem places96 : placesOf Tryd.prog 96 = some (fun i => (#[(0, 0)] : Array (Nat × Nat))[i]?) := by kernel_rfl
theorem isAgg98 : isAggB Tryd.prog 98 = some false := by kernel_rfl
theorem tsz98 : (Tryd.prog.types[98]'(of_decide_eq_true (by kernel_rfl))).size = 1 := by kernel_rfl
theorem size98 : sizeB Tryd.prog 98 = some 1 := by kernel_rfl
theorem intK98 : intKindB Tryd.prog 98 = some .u8 := by kernel_rfl
theorem elem98 : elemB Tryd.prog 98 = none := by kernel_rfl
theorem und98 : Tryd.prog.underlying 98 = some (.int .u8) := by kernel_rfl
theorem zero98 : zeroC Tryd.prog 98 = some [.int .u8 0] := by kernel_rfl
theorem isAgg99 : isAggB Tryd.prog 99 = some false := by kernel_rfl
theorem tsz99 : (Tryd.prog.types[99]'(of_decide_eq_true (by kernel_rfl))).size = 1 := by kernel_rfl
theorem size99 : sizeB Tryd.prog 99 = some 1 := by kernel_rfl
theorem intK99 : intKindB Tryd.prog 99 = some .u8 := by kernel_rfl
theorem elem99 : elemB Tryd.prog 99 = none := by kernel_rfl
theorem und99 : Tryd.prog.underlying 99 = some (.int .u8) := by kernel_rfl
theorem zero99 : zeroC Tryd.prog 99 = some [.int .u8 0] := by kernel_rfl
theorem isAgg102 : isAggB Tryd.prog 102 = some false := by kernel_rfl
theorem tsz102 : (Tryd.prog.types[102]'(of_decide_eq_true (by kernel_rfl))).size = 1 := by kernel_rfl
theorem size102 : sizeB Tryd.prog 102 = some 1 := by kernel_rfl
theorem intK102 : intKindB Tryd.prog 102 = some .i32 := by kernel_rfl
theorem elem102 : elemB Tryd.prog 102 = none := by kernel_rfl
theorem zero102 : zeroC Tryd.prog 102 = some [.int .i32 0] := by kernel_rfl
theorem isAgg103 : isAggB Tryd.prog 103 = some false := by kernel_rfl
theorem tsz103 : (Tryd.prog.types[103]'(of_decide_eq_true (by kernel_rfl))).size = 1 := by kernel_rfl
theorem size103 : sizeB Tryd.prog 103 = some 1 := by kernel_rfl
theorem intK103 : intKindB Tryd.prog 103 = some .i32 := by kernel_rfl
theorem elem103 : elemB Tryd.prog 103 = none := by kernel_rfl
theorem zero103 : zeroC Tryd.prog 103 = some [.int .i32 0] := by kernel_rfl
theorem isAgg104 : isAggB Tryd.prog 104 = some true := by kernel_rfl
theorem tsz104 : (Tryd.prog.types[104]'(of_decide_eq_true (by kernel_rfl))).size = 11 := by kernel_rfl
theorem size104 : sizeB Tryd.prog 104 = some 11 := by kernel_rfl
theorem intK104 : intKindB Tryd.prog 104 = none := by kernel_rfl
theorem elem104 : elemB Tryd.prog 104 = none := by kernel_rfl
theorem zero104 : zeroC Tryd.prog 104 = some [.int .u64 0, .int .u64 0, .int .u32 0, .int .u8 0, .int .u8 0, .int .u8 0, .int .u8 0, .nilFunc, .pointer none, .int .i32 0, .int .i32 0] := by kernel_rfl
theorem field104_0 : fieldB Tryd.prog 104 0 = some (0, 12) := by kernel_rfl
theorem field104_1 : fieldB Tryd.prog 104 1 = some (1, 12) := by kernel_rfl
theorem field104_2 : fieldB Tryd.prog 104 2 = some (2, 68) := by kernel_rfl
theorem field104_3 : fieldB Tryd.prog 104 3 = some (3, 98) := by kernel_rfl
theorem field104_4 : fieldB Tryd.prog 104 4 = some (4, 5) := by kernel_rfl
theorem field104_5 : fieldB Tryd.prog 104 5 = some (5, 5) := by kernel_rfl
theorem field104_6 : fieldB Tryd.prog 104 6 = some (6, 99) := by kernel_rfl
theorem field104_7 : fieldB Tryd.prog 104 7 = some (7, 100) := by kernel_rfl
theorem field104_8 : fieldB Tryd.prog 104 8 = some (8, 101) := by kernel_rfl
theorem field104_9 : fieldB Tryd.prog 104 9 = some (9, 102) := by kernel_rfl
theorem field104_10 : fieldB Tryd.prog 104 10 = some (10, 103) := by kernel_rfl
theorem isAgg105 : isAggB Tryd.prog 105 = some true := by kernel_rfl
theorem tsz105 : (Tryd.prog.types[105]'(of_decide_eq_true (by kernel_rfl))).size = 11 := by kernel_rfl
theorem size105 : sizeB Tryd.prog 105 = some 11 := by kernel_rfl
theorem intK105 : intKindB Tryd.prog 105 = none := by kernel_rfl
theorem elem105 : elemB Tryd.prog 105 = none := by kernel_rfl
theorem zero105 : zeroC Tryd.prog 105 = some [.int .u64 0, .int .u64 0, .int .u32 0, .int .u8 0, .int .u8 0, .int .u8 0, .int .u8 0, .nilFunc, .pointer none, .int .i32 0, .int .i32 0] := by kernel_rfl
theorem field105_0 : fieldB Tryd.prog 105 0 = some (0, 12) := by kernel_rfl
theorem field105_1 : fieldB Tryd.prog 105 1 = some (1, 12) := by kernel_rfl
theorem field105_2 : fieldB Tryd.prog 105 2 = some (2, 68) := by kernel_rfl
theorem field105_3 : fieldB Tryd.prog 105 3 = some (3, 98) := by kernel_rfl
theorem field105_4 : fieldB Tryd.prog 105 4 = some (4, 5) := by kernel_rfl
theorem field105_5 : fieldB Tryd.prog 105 5 = some (5, 5) := by kernel_rfl
theorem field105_6 : fieldB Tryd.prog 105 6 = some (6, 99) := by kernel_rfl
theorem field105_7 : fieldB Tryd.prog 105 7 = some (7, 100) := by kernel_rfl
theorem field105_8 : fieldB Tryd.prog 105 8 = some (8, 101) := by kernel_rfl
theorem field105_9 : fieldB Tryd.prog 105 9 = some (9, 102) := by kernel_rfl
theorem field105_10 : fieldB Tryd.prog 105 10 = some (10, 103) := by kernel_rfl
theorem fnOk3 : FnOk Tryd.prog 3 := ⟨_, _, Tryd.func3, rfl, rfl⟩
theorem fnOk4 : FnOk Tryd.prog 4 := ⟨_, _, Tryd.func4, rfl, rfl⟩
theorem fnOk5 : FnOk Tryd.prog 5 := ⟨_, _, Tryd.func5, rfl, rfl⟩
theorem fnOk6 : FnOk Tryd.prog 6 := ⟨_, _, Tryd.func6, rfl, rfl⟩
theorem fnOk7 : FnOk Tryd.prog 7 := ⟨_, _, Tryd.func7, rfl, rfl⟩
theorem fnOk8 : FnOk Tryd.prog 8 := ⟨_, _, Tryd.func8, rfl, rfl⟩
theorem fnOk9 : FnOk Tryd.prog 9 := ⟨_, _, Tryd.func9, rfl, rfl⟩
theorem fnOk10 : FnOk Tryd.prog 10 := ⟨_, _, Tryd.func10, rfl, rfl⟩
theorem fnOk11 : FnOk Tryd.prog 11 := ⟨_, _, Tryd.func11, rfl, rfl⟩
theorem fnOk12 : FnOk Tryd.prog 12 := ⟨_, _, Tryd.func12, rfl, rfl⟩
theorem fnOk13 : FnOk Tryd.prog 13 := ⟨_, _, Tryd.func13, rfl, rfl⟩
theorem fnOk14 : FnOk Tryd.prog 14 := ⟨_, _, Tryd.func14, rfl, rfl⟩
theorem fnOk15 : FnOk Tryd.prog 15 := ⟨_, _, Tryd.func15, rfl, rfl⟩
theorem fnOk16 : FnOk Tryd.prog 16 := ⟨_, _, Tryd.func16, rfl, rfl⟩
theorem fnOk17 : FnOk Tryd.prog 17 := ⟨_, _, Tryd.func17, rfl, rfl⟩
theorem fnOk18 : FnOk Tryd.prog 18 := ⟨_, _, Tryd.func18, rfl, rfl⟩
theorem fnOk19 : FnOk Tryd.prog 19 := ⟨_, _, Tryd.func19, rfl, rfl⟩
theorem fnOk20 : FnOk Tryd.prog 20 := ⟨_, _, Tryd.func20, rfl, rfl⟩
theorem fnOk21 : FnOk Tryd.prog 21 := ⟨_, _, Tryd.func21, rfl, rfl⟩
theorem fnOk22 : FnOk Tryd.prog 22 := ⟨_, _, Tryd.func22, rfl, rfl⟩
theorem fnOk23 : FnOk Tryd.prog 23 := ⟨_, _, Tryd.func23, rfl, rfl⟩
theorem fnOk24 : FnOk Tryd.prog 24 := ⟨_, _, Tryd.func24, rfl, rfl⟩
theorem fnOk25 : FnOk Tryd.prog 25 := ⟨_, _, Tryd.func25, rfl, rfl⟩
theorem fnOk26 : FnOk Tryd.prog 26 := ⟨_, _, Tryd.func26, rfl, rfl⟩
theorem fnOk27 : FnOk Tryd.prog 27 := ⟨_, _, Tryd.func27, rfl, rfl⟩
theorem fnOk28 : FnOk Tryd.prog 28 := ⟨_, _, Tryd.func28, rfl, rfl⟩
theorem fnOk29 : FnOk Tryd.prog 29 := ⟨_, _, Tryd.func29, rfl, rfl⟩
theorem fnOk30 : FnOk Tryd.prog 30 := ⟨_, _, Tryd.func30, rfl, rfl⟩
theorem fnOk31 : FnOk Tryd.prog 31 := ⟨_, _, Tryd.func31, rfl, rfl⟩
theorem fnOk32 : FnOk Tryd.prog 32 := ⟨_, _, Tryd.func32, rfl, rfl⟩
theorem fnOk33 : FnOk Tryd.prog 33 := ⟨_, _, Tryd.func33, rfl, rfl⟩
theorem fnOk34 : FnOk Tryd.prog 34 := ⟨_, _, Tryd.func34, rfl, rfl⟩
theorem fnOk35 : FnOk Tryd.prog 35 := ⟨_, _, Tryd.func35, rfl, rfl⟩
theorem fnOk36 : FnOk Tryd.prog 36 := ⟨_, _, Tryd.func36, rfl, rfl⟩
theorem fnOk37 : FnOk Tryd.prog 37 := ⟨_, _, Tryd.func37, rfl, rfl⟩
theorem fnOk38 : FnOk Tryd.prog 38 := ⟨_, _, Tryd.func38, rfl, rfl⟩
theorem fnOk39 : FnOk Tryd.prog 39 := ⟨_, _, Tryd.func39, rfl, rfl⟩
theorem fnOk40 : FnOk Tryd.prog 40 := ⟨_, _, Tryd.func40, rfl, rfl⟩
theorem fnOk41 : FnOk Tryd.prog 41 := ⟨_, _, Tryd.func41, rfl, rfl⟩
theorem fnOk42 : FnOk Tryd.prog 42 := ⟨_, _, Tryd.func42, rfl, rfl⟩
theorem fnOk43 : FnOk Tryd.prog 43 := ⟨_, _, Tryd.func43, rfl, rfl⟩
theorem fnOk44 : FnOk Tryd.prog 44 := ⟨_, _, Tryd.func44, rfl, rfl⟩
theorem fnOk45 : FnOk Tryd.prog 45 := ⟨_, _, Tryd.func45, rfl, rfl⟩
theorem fnOk46 : FnOk Tryd.prog 46 := ⟨_, _, Tryd.func46, rfl, rfl⟩
theorem fnOk47 : FnOk Tryd.prog 47 := ⟨_, _, Tryd.func47, rfl, rfl⟩
theorem fnOk48 : FnOk Tryd.prog 48 := ⟨_, _, Tryd.func48, rfl, rfl⟩
theorem fnOk49 : FnOk Tryd.prog 49 := ⟨_, _, Tryd.func49, rfl, rfl⟩
theorem fnOk50 : FnOk Tryd.prog 50 := ⟨_, _, Tryd.func50, rfl, rfl⟩
theorem fnOk51 : FnOk Tryd.prog 51 := ⟨_, _, Tryd.func51, rfl, rfl⟩
theorem fnOk52 : FnOk Tryd.prog 52 := ⟨_, _, Tryd.func52, rfl, rfl⟩
theorem fnOk53 : FnOk Tryd.prog 53 := ⟨_, _, Tryd.func53, rfl, rfl⟩
theorem fnOk54 : FnOk Tryd.prog 54 := ⟨_, _, Tryd.func54, rfl, rfl⟩
theorem fnOk55 : FnOk Tryd.prog 55 := ⟨_, _, Tryd.func55, rfl, rfl⟩
theorem fnOk56 : FnOk Tryd.prog 56 := ⟨_, _, Tryd.func56, rfl, rfl⟩
theorem fnOk57 : FnOk Tryd.prog 57 := ⟨_, _, Tryd.func57, rfl, rfl⟩
theorem fnOk58 : FnOk Tryd.prog 58 := ⟨_, _, Tryd.func58, rfl, rfl⟩
theorem fnOk59 : FnOk Tryd.prog 59 := ⟨_, _, Tryd.func59, rfl, rfl⟩
theorem fnOk60 : FnOk Tryd.prog 60 := ⟨_, _, Tryd.func60, rfl, rfl⟩
theorem fnOk61 : FnOk Tryd.prog 61 := ⟨_, _, Tryd.func61, rfl, rfl⟩
theorem fnOk62 : FnOk Tryd.prog 62 := ⟨_, _, Tryd.func62, rfl, rfl⟩
theorem fnOk63 : FnOk Tryd.prog 63 := ⟨_, _, Tryd.func63, rfl, rfl⟩
theorem fnOk64 : FnOk Tryd.prog 64 := ⟨_, _, Tryd.func64, rfl, rfl⟩
theorem fnOk65 : FnOk Tryd.prog 65 := ⟨_, _, Tryd.func65, rfl, rfl⟩
theorem fnOk66 : FnOk Tryd.prog 66 := ⟨_, _, Tryd.func66, rfl, rfl⟩
theorem fnOk67 : FnOk Tryd.prog 67 := ⟨_, _, Tryd.func67, rfl, rfl⟩
theorem fnOk68 : FnOk Tryd.prog 68 := ⟨_, _, Tryd.func68, rfl, rfl⟩
theorem fnOk69 : FnOk Tryd.prog 69 := ⟨_, _, Tryd.func69, rfl, rfl⟩
theorem fnOk70 : FnOk Tryd.prog 70 := ⟨_, _, Tryd.func70, rfl, rfl⟩
theorem fnOk71 : FnOk Tryd.prog 71 := ⟨_, _, Tryd.func71, rfl, rfl⟩
theorem fnOk72 : FnOk Tryd.prog 72 := ⟨_, _, Tryd.func72, rfl, rfl⟩
theorem fnOk73 : FnOk Tryd.prog 73 := ⟨_, _, Tryd.func73, rfl, rfl⟩
theorem fnOk74 : FnOk Tryd.prog 74 := ⟨_, _, Tryd.func74, rfl, rfl⟩
theorem fnOk75 : FnOk Tryd.prog 75 := ⟨_, _, Tryd.func75, rfl, rfl⟩
theorem fnOk76 : FnOk Tryd.prog 76 := ⟨_, _, Tryd.func76, rfl, rfl⟩
theorem fnOk77 : FnOk Tryd.prog 77 := ⟨_, _, Tryd.func77, rfl, rfl⟩
theorem fnOk78 : FnOk Tryd.prog 78 := ⟨_, _, Tryd.func78, rfl, rfl⟩
end Go.Proofs.YtiifcgaililllaaDoor
