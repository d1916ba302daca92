/- Closed facts on the types of the program, for the walk over plain values. -/
import Derived.Test.YtbcclcbmbejnmaaDoorPw16
import Derived.Test.YtbcclcbmbejnmaaDoorProg
namespace Go.Proofs.YtbcclcbmbejnmaaDoor
open Go Go.RowKit
theorem isAgg2 : isAggB Tryd.prog 2 = some false := by kernel_rfl
theorem tsz2 : (Tryd.prog.types[2]'(of_decide_eq_true (by kernel_rfl))).size = 1 := by kernel_rfl
theorem size2 : sizeB Tryd.prog 2 = some 1 := by kernel_rfl
theorem intK2 : intKindB Tryd.prog 2 = some .i64 := by kernel_rfl
theorem elem2 : elemB Tryd.prog 2 = none := by kernel_rfl
theorem zero2 : zeroC Tryd.prog 2 = some [.int .i64 0] := by kernel_rfl
theorem isAgg3 : isAggB Tryd.prog 3 = some false := by kernel_rfl
theorem tsz3 : (Tryd.prog.types[3]'(of_decide_eq_true (by kernel_rfl))).size = 1 := by kernel_rfl
theorem size3 : sizeB Tryd.prog 3 = some 1 := by kernel_rfl
theorem intK3 : intKindB Tryd.prog 3 = some .i64 := by kernel_rfl
theorem elem3 : elemB Tryd.prog 3 = none := by kernel_rfl
theorem zero3 : zeroC Tryd.prog 3 = some [.int .i64 0] := by kernel_rfl
theorem isAgg4 : isAggB Tryd.prog 4 = some false := by kernel_rfl
theorem tsz4 : (Tryd.prog.types[4]'(of_decide_eq_true (by kernel_rfl))).size = 1 := by kernel_rfl
theorem size4 : sizeB Tryd.prog 4 = some 1 := by kernel_rfl
theorem intK4 : intKindB Tryd.prog 4 = none := by kernel_rfl
theorem elem4 : elemB Tryd.prog 4 = none := by kernel_rfl
theorem und4 : Tryd.prog.underlying 4 = some .bool := by kernel_rfl
theorem zero4 : zeroC Tryd.prog 4 = some [.bool false] := by kernel_rfl
theorem isAgg5 : isAggB Tryd.prog 5 = some false := by kernel_rfl
theorem tsz5 : (Tryd.prog.types[5]'(of_decide_eq_true (by kernel_rfl))).size = 1 := by kernel_rfl
theorem size5 : sizeB Tryd.prog 5 = some 1 := by kernel_rfl
theorem intK5 : intKindB Tryd.prog 5 = some .u8 := by kernel_rfl
theorem elem5 : elemB Tryd.prog 5 = none := by kernel_rfl
theorem und5 : Tryd.prog.underlying 5 = some (.int .u8) := by kernel_rfl
theorem zero5 : zeroC Tryd.prog 5 = some [.int .u8 0] := by kernel_rfl
theorem isAgg6 : isAggB Tryd.prog 6 = some false := by kernel_rfl
theorem tsz6 : (Tryd.prog.types[6]'(of_decide_eq_true (by kernel_rfl))).size = 1 := by kernel_rfl
theorem size6 : sizeB Tryd.prog 6 = some 1 := by kernel_rfl
theorem intK6 : intKindB Tryd.prog 6 = some .u8 := by kernel_rfl
theorem elem6 : elemB Tryd.prog 6 = none := by kernel_rfl
theorem und6 : Tryd.prog.underlying 6 = some (.int .u8) := by kernel_rfl
theorem zero6 : zeroC Tryd.prog 6 = some [.int .u8 0] := by kernel_rfl
theorem isAgg7 : isAggB Tryd.prog 7 = some true := by kernel_rfl
theorem tsz7 : (Tryd.prog.types[7]'(of_decide_eq_true (by kernel_rfl))).size = 4 := by kernel_rfl
theorem size7 : sizeB Tryd.prog 7 = some 4 := by kernel_rfl
theorem intK7 : intKindB Tryd.prog 7 = none := by kernel_rfl
theorem elem7 : elemB Tryd.prog 7 = none := by kernel_rfl
theorem zero7 : zeroC Tryd.prog 7 = some [.int .i64 0, .int .i64 0, .bool false, .int .u8 0] := by kernel_rfl
theorem field7_0 : fieldB Tryd.prog 7 0 = some (0, 2) := by kernel_rfl
theorem field7_1 : fieldB Tryd.prog 7 1 = some (1, 3) := by kernel_rfl
theorem field7_2 : fieldB Tryd.prog 7 2 = some (2, 4) := by kernel_rfl
theorem field7_3 : fieldB Tryd.prog 7 3 = some (3, 6) := by kernel_rfl
theorem places7 : placesOf Tryd.prog 7 = some (fun i => (#[(0, 1), (1, 1), (2, 1), (3, 1)] : Array (Nat × Nat))[i]?) := by kernel_rfl
theorem isAgg8 : isAggB Tryd.prog 8 = some true := by kernel_rfl
theorem tsz8 : (Tryd.prog.types[8]'(of_decide_eq_true (by kernel_rfl))).size = 4 := by kernel_rfl
theorem size8 : sizeB Tryd.prog 8 = some 4 := by kernel_rfl
theorem intK8 : intKindB Tryd.prog 8 = none := by kernel_rfl
theorem elem8 : elemB Tryd.prog 8 = none := by kernel_rfl
theorem zero8 : zeroC Tryd.prog 8 = some [.int .i64 0, .int .i64 0, .bool false, .int .u8 0] := by kernel_rfl
theorem field8_0 : fieldB Tryd.prog 8 0 = some (0, 2) := by kernel_rfl
theorem field8_1 : fieldB Tryd.prog 8 1 = some (1, 3) := by kernel_rfl
theorem field8_2 : fieldB Tryd.prog 8 2 = some (2, 4) := by kernel_rfl
theorem field8_3 : fieldB Tryd.prog 8 3 = some (3, 6) := by kernel_rfl
theorem places8 : placesOf Tryd.prog 8 = some (fun i => (#[(0, 1), (1, 1), (2, 1), (3, 1)] : Array (Nat × Nat))[i]?) := by kernel_rfl
theorem isAgg9 : isAggB Tryd.prog 9 = some false := by kernel_rfl
theorem tsz9 : (Tryd.prog.types[9]'(of_decide_eq_true (by kernel_rfl))).size = 1 := by kernel_rfl
theorem size9 : sizeB Tryd.prog 9 = some 1 := by kernel_rfl
theorem intK9 : intKindB Tryd.prog 9 = none := by kernel_rfl
theorem elem9 : elemB Tryd.prog 9 = none := by kernel_rfl
theorem und9 : Tryd.prog.underlying 9 = some .string := by kernel_rfl
theorem zero9 : zeroC Tryd.prog 9 = some [.string ByteArray.empty] := by kernel_rfl
theorem isAgg10 : isAggB Tryd.prog 10 = some false := by kernel_rfl
theorem tsz10 : (Tryd.prog.types[10]'(of_decide_eq_true (by kernel_rfl))).size = 1 := by kernel_rfl
theorem size10 : sizeB Tryd.prog 10 = some 1 := by kernel_rfl
theorem intK10 : intKindB Tryd.prog 10 = none := by kernel_rfl
theorem elem10 : elemB Tryd.prog 10 = none := by kernel_rfl
theorem und10 : Tryd.prog.underlying 10 = some .string := by kernel_rfl
theorem zero10 : zeroC Tryd.prog 10 = some [.string ByteArray.empty] := by kernel_rfl
theorem isAgg11 : isAggB Tryd.prog 11 = some false := by kernel_rfl
theorem tsz11 : (Tryd.prog.types[11]'(of_decide_eq_true (by kernel_rfl))).size = 1 := by kernel_rfl
theorem size11 : sizeB Tryd.prog 11 = some 1 := by kernel_rfl
theorem intK11 : intKindB Tryd.prog 11 = none := by kernel_rfl
theorem elem11 : elemB Tryd.prog 11 = none := by kernel_rfl
theorem und11 : Tryd.prog.underlying 11 = some .string := by kernel_rfl
theorem zero11 : zeroC Tryd.prog 11 = some [.string ByteArray.empty] := by kernel_rfl
theorem isAgg12 : isAggB Tryd.prog 12 = some false := by kernel_rfl
theorem tsz12 : (Tryd.prog.types[12]'(of_decide_eq_true (by kernel_rfl))).size = 1 := by kernel_rfl
theorem size12 : sizeB Tryd.prog 12 = some 1 := by kernel_rfl
theorem intK12 : intKindB Tryd.prog 12 = some .u64 := by kernel_rfl
theorem elem12 : elemB Tryd.prog 12 = none := by kernel_rfl
theorem zero12 : zeroC Tryd.prog 12 = some [.int .u64 0] := by kernel_rfl
theorem isAgg13 : isAggB Tryd.prog 13 = some true := by kernel_rfl
theorem tsz13 : (Tryd.prog.types[13]'(of_decide_eq_true (by kernel_rfl))).size = 2 := by kernel_rfl
theorem size13 : sizeB Tryd.prog 13 = some 2 := by kernel_rfl
theorem intK13 : intKindB Tryd.prog 13 = none := by kernel_rfl
theorem elem13 : elemB Tryd.prog 13 = none := by kernel_rfl
theorem zero13 : zeroC Tryd.prog 13 = some [.string ByteArray.empty, .int .u64 0] := by kernel_rfl
theorem field13_0 : fieldB Tryd.prog 13 0 = some (0, 9) := by kernel_rfl
theorem field13_1 : fieldB Tryd.prog 13 1 = some (1, 12) := by kernel_rfl
theorem places13 : placesOf Tryd.prog 13 = some (fun i => (#[(0, 1), (1, 1)] : Array (Nat × Nat))[i]?) := by kernel_rfl
theorem isAgg14 : isAggB Tryd.prog 14 = some true := by kernel_rfl
theorem tsz14 : (Tryd.prog.types[14]'(of_decide_eq_true (by kernel_rfl))).size = 2 := by kernel_rfl
theorem size14 : sizeB Tryd.prog 14 = some 2 := by kernel_rfl
theorem intK14 : intKindB Tryd.prog 14 = none := by kernel_rfl
theorem elem14 : elemB Tryd.prog 14 = none := by kernel_rfl
theorem zero14 : zeroC Tryd.prog 14 = some [.string ByteArray.empty, .int .u64 0] := by kernel_rfl
theorem field14_0 : fieldB Tryd.prog 14 0 = some (0, 9) := by kernel_rfl
theorem field14_1 : fieldB Tryd.prog 14 1 = some (1, 12) := by kernel_rfl
theorem places14 : placesOf Tryd.prog 14 = some (fun i => (#[(0, 1), (1, 1)] : Array (Nat × Nat))[i]?) := by kernel_rfl
theorem isAgg18 : isAggB Tryd.prog 18 = some true := by kernel_rfl
theorem tsz18 : (Tryd.prog.types[18]'(of_decide_eq_true (by kernel_rfl))).size = 1 := by kernel_rfl
theorem size18 : sizeB Tryd.prog 18 = some 1 := by kernel_rfl
theorem intK18 : intKindB Tryd.prog 18 = none := by kernel_rfl
theorem elem18 : elemB Tryd.prog 18 = none := by kernel_rfl
theorem zero18 : zeroC Tryd.prog 18 = some [.pointer none] := by kernel_rfl
theorem field18_0 : fieldB Tryd.prog 18 0 = some (0, 17) := by kernel_rfl
theorem isAgg19 : isAggB Tryd.prog 19 = some true := by kernel_rfl
theorem tsz19 : (Tryd.prog.types[19]'(of_decide_eq_true (by kernel_rfl))).size = 1 := by kernel_rfl
theorem size19 : sizeB Tryd.prog 19 = some 1 := by kernel_rfl
theorem intK19 : intKindB Tryd.prog 19 = none := by kernel_rfl
theorem elem19 : elemB Tryd.prog 19 = none := by kernel_rfl
theorem zero19 : zeroC Tryd.prog 19 = some [.pointer none] := by kernel_rfl
theorem field19_0 : fieldB Tryd.prog 19 0 = some (0, 17) := by kernel_rfl
theorem isAgg21 : isAggB Tryd.prog 21 = some false := by kernel_rfl
theorem tsz21 : (Tryd.prog.types[21]'(of_decide_eq_true (by kernel_rfl))).size = 1 := by kernel_rfl
theorem size21 : sizeB Tryd.prog 21 = some 1 := by kernel_rfl
theorem intK21 : intKindB Tryd.prog 21 = some .i32 := by kernel_rfl
theorem elem21 : elemB Tryd.prog 21 = none := by kernel_rfl
theorem zero21 : zeroC Tryd.prog 21 = some [.int .i32 0] := by kernel_rfl
theorem isAgg22 : isAggB Tryd.prog 22 = some false := by kernel_rfl
theorem tsz22 : (Tryd.prog.types[22]'(of_decide_eq_true (by kernel_rfl))).size = 1 := by kernel_rfl
theorem size22 : sizeB Tryd.prog 22 = some 1 := by kernel_rfl
theorem intK22 : intKindB Tryd.prog 22 = none := by kernel_rfl
theorem elem22 : elemB Tryd.prog 22 = some 23 := by kernel_rfl
theorem zero22 : zeroC Tryd.prog 22 = some [.slice none 0 0] := by kernel_rfl
theorem elty22 : eltyB Tryd.prog 22 = some (23, 1, 24, [.slice none 0 0]) := by kernel_rfl
theorem isAgg23 : isAggB Tryd.prog 23 = some false := by kernel_rfl
theorem tsz23 : (Tryd.prog.types[23]'(of_decide_eq_true (by kernel_rfl))).size = 1 := by kernel_rfl
theorem size23 : sizeB Tryd.prog 23 = some 1 := by kernel_rfl
theorem intK23 : intKindB Tryd.prog 23 = none := by kernel_rfl
theorem elem23 : elemB Tryd.prog 23 = some 5 := by kernel_rfl
theorem zero23 : zeroC Tryd.prog 23 = some [.slice none 0 0] := by kernel_rfl
theorem elty23 : eltyB Tryd.prog 23 = some (5, 1, 1, [.int .u8 0]) := by kernel_rfl
theorem isAgg24 : isAggB Tryd.prog 24 = some false := by kernel_rfl
theorem tsz24 : (Tryd.prog.types[24]'(of_decide_eq_true (by kernel_rfl))).size = 1 := by kernel_rfl
theorem size24 : sizeB Tryd.prog 24 = some 1 := by kernel_rfl
theorem intK24 : intKindB Tryd.prog 24 = some .u64 := by kernel_rfl
theorem elem24 : elemB Tryd.prog 24 = none := by kernel_rfl
theorem zero24 : zeroC Tryd.prog 24 = some [.int .u64 0] := by kernel_rfl
theorem isAgg25 : isAggB Tryd.prog 25 = some false := by kernel_rfl
theorem tsz25 : (Tryd.prog.types[25]'(of_decide_eq_true (by kernel_rfl))).size = 1 := by kernel_rfl
theorem size25 : sizeB Tryd.prog 25 = some 1 := by kernel_rfl
theorem intK25 : intKindB Tryd.prog 25 = none := by kernel_rfl
theorem elem25 : elemB Tryd.prog 25 = some 3 := by kernel_rfl
theorem zero25 : zeroC Tryd.prog 25 = some [.slice none 0 0] := by kernel_rfl
theorem elty25 : eltyB Tryd.prog 25 = some (3, 1, 8, [.int .i64 0]) := by kernel_rfl
theorem isAgg26 : isAggB Tryd.prog 26 = some true := by kernel_rfl
theorem tsz26 : (Tryd.prog.types[26]'(of_decide_eq_true (by kernel_rfl))).size = 3 := by kernel_rfl
theorem size26 : sizeB Tryd.prog 26 = some 3 := by kernel_rfl
theorem intK26 : intKindB Tryd.prog 26 = none := by kernel_rfl
theorem elem26 : elemB Tryd.prog 26 = none := by kernel_rfl
theorem zero26 : zeroC Tryd.prog 26 = some [.int .u64 0, .int .u64 0, .slice none 0 0] := by kernel_rfl
theorem field26_0 : fieldB Tryd.prog 26 0 = some (0, 24) := by kernel_rfl
theorem field26_1 : fieldB Tryd.prog 26 1 = some (1, 24) := by kernel_rfl
theorem field26_2 : fieldB Tryd.prog 26 2 = some (2, 25) := by kernel_rfl
theorem places26 : placesOf Tryd.prog 26 = some (fun i => (#[(0, 1), (1, 1), (2, 1)] : Array (Nat × Nat))[i]?) := by kernel_rfl
theorem isAgg27 : isAggB Tryd.prog 27 = some true := by kernel_rfl
theorem tsz27 : (Tryd.prog.types[27]'(of_decide_eq_true (by kernel_rfl))).size = 3 := by kernel_rfl
theorem size27 : sizeB Tryd.prog 27 = some 3 := by kernel_rfl
theorem intK27 : intKindB Tryd.prog 27 = none := by kernel_rfl
theorem elem27 : elemB Tryd.prog 27 = none := by kernel_rfl
theorem zero27 : zeroC Tryd.prog 27 = some [.int .u64 0, .int .u64 0, .slice none 0 0] := by kernel_rfl
theorem field27_0 : fieldB Tryd.prog 27 0 = some (0, 24) := by kernel_rfl
theorem field27_1 : fieldB Tryd.prog 27 1 = some (1, 24) := by kernel_rfl
theorem field27_2 : fieldB Tryd.prog 27 2 = some (2, 25) := by kernel_rfl
theorem places27 : placesOf Tryd.prog 27 = some (fun i => (#[(0, 1), (1, 1), (2, 1)] : Array (Nat × Nat))[i]?) := by kernel_rfl
theorem isAgg30 : isAggB Tryd.prog 30 = some false := by kernel_rfl
theorem tsz30 : (Tryd.prog.types[30]'(of_decide_eq_true (by kernel_rfl))).size = 1 := by kernel_rfl
theorem size30 : sizeB Tryd.prog 30 = some 1 := by kernel_rfl
theorem intK30 : intKindB Tryd.prog 30 = some .i64 := by kernel_rfl
theorem elem30 : elemB Tryd.prog 30 = none := by kernel_rfl
theorem zero30 : zeroC Tryd.prog 30 = some [.int .i64 0] := by kernel_rfl
theorem isAgg48 : isAggB Tryd.prog 48 = some true := by kernel_rfl
theorem tsz48 : (Tryd.prog.types[48]'(of_decide_eq_true (by kernel_rfl))).size = 78 := by kernel_rfl
theorem size48 : sizeB Tryd.prog 48 = some 78 := by kernel_rfl
theorem intK48 : intKindB Tryd.prog 48 = none := by kernel_rfl
theorem elem48 : elemB Tryd.prog 48 = none := by kernel_rfl
theorem arr48 : arrB Tryd.prog 48 = some (78, 5) := by kernel_rfl
theorem zero48 : zeroC Tryd.prog 48 = some [.int .u8 0, .int .u8 0, .int .u8 0, .int .u8 0, .int .u8 0, .int .u8 0, .int .u8 0, .int .u8 0, .int .u8 0, .int .u8 0, .int .u8 0, .int .u8 0, .int .u8 0, .int .u8 0, .int .u8 0, .int .u8 0, .int .u8 0, .int .u8 0, .int .u8 0, .int .u8 0, .int .u8 0, .int .u8 0, .int .u8 0, .int .u8 0, .int .u8 0, .int .u8 0, .int .u8 0, .int .u8 0, .int .u8 0, .int .u8 0, .int .u8 0, .int .u8 0, .int .u8 0, .int .u8 0, .int .u8 0, .int .u8 0, .int .u8 0, .int .u8 0, .int .u8 0, .int .u8 0, .int .u8 0, .int .u8 0, .int .u8 0, .int .u8 0, .int .u8 0, .int .u8 0, .int .u8 0, .int .u8 0, .int .u8 0, .int .u8 0, .int .u8 0, .int .u8 0, .int .u8 0, .int .u8 0, .int .u8 0, .int .u8 0, .int .u8 0, .int .u8 0, .int .u8 0, .int .u8 0, .int .u8 0, .int .u8 0, .int .u8 0, .int .u8 0, .int .u8 0, .int .u8 0, .int .u8 0, .int .u8 0, .int .u8 0, .int .u8 0, .int .u8 0, .int .u8 0, .int .u8 0, .int .u8 0, .int .u8 0, .int .u8 0, .int .u8 0, .int .u8 0] := by kernel_rfl
theorem places48 : placesOf Tryd.prog 48 = some (fun i => some (i * 1, 1)) := by kernel_rfl
theorem isAgg66 : isAggB Tryd.prog 66 = some true := by kernel_rfl
theorem tsz66 : (Tryd.prog.types[66]'(of_decide_eq_true (by kernel_rfl))).size = 17 := by kernel_rfl
theorem size66 : sizeB Tryd.prog 66 = some 17 := by kernel_rfl
theorem intK66 : intKindB Tryd.prog 66 = none := by kernel_rfl
theorem elem66 : elemB Tryd.prog 66 = none := by kernel_rfl
theorem arr66 : arrB Tryd.prog 66 = some (17, 4) := by kernel_rfl
theorem zero66 : zeroC Tryd.prog 66 = some [.bool false, .bool false, .bool false, .bool false, .bool false, .bool false, .bool false, .bool false, .bool false, .bool false, .bool false, .bool false, .bool false, .bool false, .bool false, .bool false, .bool false] := by kernel_rfl
theorem places66 : placesOf Tryd.prog 66 = some (fun i => some (i * 1, 1)) := by kernel_rfl
theorem isAgg67 : isAggB Tryd.prog 67 = some false := by kernel_rfl
theorem tsz67 : (Tryd.prog.types[67]'(of_decide_eq_true (by kernel_rfl))).size = 1 := by kernel_rfl
theorem size67 : sizeB Tryd.prog 67 = some 1 := by kernel_rfl
theorem intK67 : intKindB Tryd.prog 67 = some .u32 := by kernel_rfl
theorem elem67 : elemB Tryd.prog 67 = none := by kernel_rfl
theorem zero67 : zeroC Tryd.prog 67 = some [.int .u32 0] := by kernel_rfl
theorem isAgg68 : isAggB Tryd.prog 68 = some true := by kernel_rfl
theorem tsz68 : (Tryd.prog.types[68]'(of_decide_eq_true (by kernel_rfl))).size = 8 := by kernel_rfl
theorem size68 : sizeB Tryd.prog 68 = some 8 := by kernel_rfl
theorem intK68 : intKindB Tryd.prog 68 = none := by kernel_rfl
theorem elem68 : elemB Tryd.prog 68 = none := by kernel_rfl
theorem arr68 : arrB Tryd.prog 68 = some (8, 67) := by kernel_rfl
theorem zero68 : zeroC Tryd.prog 68 = some [.int .u32 0, .int .u32 0, .int .u32 0, .int .u32 0, .int .u32 0, .int .u32 0, .int .u32 0, .int .u32 0] := by kernel_rfl
theorem places68 : placesOf Tryd.prog 68 = some (fun i => some (i * 1, 1)) := by kernel_rfl
theorem isAgg76 : isAggB Tryd.prog 76 = some false := by kernel_rfl
theorem tsz76 : (Tryd.prog.types[76]'(of_decide_eq_true (by kernel_rfl))).size = 1 := by kernel_rfl
theorem size76 : sizeB Tryd.prog 76 = some 1 := by kernel_rfl
theorem intK76 : intKindB Tryd.prog 76 = some .u64 := by kernel_rfl
theorem elem76 : elemB Tryd.prog 76 = none := by kernel_rfl
theorem zero76 : zeroC Tryd.prog 76 = some [.int .u64 0] := by kernel_rfl
theorem isAgg77 : isAggB Tryd.prog 77 = some true := by kernel_rfl
theorem tsz77 : (Tryd.prog.types[77]'(of_decide_eq_true (by kernel_rfl))).size = 64 := by kernel_rfl
theorem size77 : sizeB Tryd.prog 77 = some 64 := by kernel_rfl
theorem intK77 : intKindB Tryd.prog 77 = none := by kernel_rfl
theorem elem77 : elemB Tryd.prog 77 = none := by kernel_rfl
theorem arr77 : arrB Tryd.prog 77 = some (64, 67) := by kernel_rfl
theorem zero77 : zeroC Tryd.prog 77 = some [.int .u32 0, .int .u32 0, .int .u32 0, .int .u32 0, .int .u32 0, .int .u32 0, .int .u32 0, .int .u32 0, .int .u32 0, .int .u32 0, .int .u32 0, .int .u32 0, .int .u32 0, .int .u32 0, .int .u32 0, .int .u32 0, .int .u32 0, .int .u32 0, .int .u32 0, .int .u32 0, .int .u32 0, .int .u32 0, .int .u32 0, .int .u32 0, .int .u32 0, .int .u32 0, .int .u32 0, .int .u32 0, .int .u32 0, .int .u32 0, .int .u32 0, .int .u32 0, .int .u32 0, .int .u32 0, .int .u32 0, .int .u32 0, .int .u32 0, .int .u32 0, .int .u32 0, .int .u32 0, .int .u32 0, .int .u32 0, .int .u32 0, .int .u32 0, .int .u32 0, .int .u32 0, .int .u32 0, .int .u32 0, .int .u32 0, .int .u32 0, .int .u32 0, .int .u32 0, .int .u32 0, .int .u32 0, .int .u32 0, .int .u32 0, .int .u32 0, .int .u32 0, .int .u32 0, .int .u32 0, .int .u32 0, .int .u32 0, .int .u32 0, .int .u32 0] := by kernel_rfl
theorem places77 : placesOf Tryd.prog 77 = some (fun i => some (i * 1, 1)) := by kernel_rfl
theorem isAgg84 : isAggB Tryd.prog 84 = some false := by kernel_rfl
theorem tsz84 : (Tryd.prog.types[84]'(of_decide_eq_true (by kernel_rfl))).size = 1 := by kernel_rfl
theorem size84 : sizeB Tryd.prog 84 = some 1 := by kernel_rfl
theorem intK84 : intKindB Tryd.prog 84 = none := by kernel_rfl
theorem elem84 : elemB Tryd.prog 84 = some 67 := by kernel_rfl
theorem zero84 : zeroC Tryd.prog 84 = some [.slice none 0 0] := by kernel_rfl
theorem elty84 : eltyB Tryd.prog 84 = some (67, 1, 4, [.int .u32 0]) := by kernel_rfl
theorem isAgg88 : isAggB Tryd.prog 88 = some true := by kernel_rfl
theorem tsz88 : (Tryd.prog.types[88]'(of_decide_eq_true (by kernel_rfl))).size = 4 := by kernel_rfl
theorem size88 : sizeB Tryd.prog 88 = some 4 := by kernel_rfl
theorem intK88 : intKindB Tryd.prog 88 = none := by kernel_rfl
theorem elem88 : elemB Tryd.prog 88 = none := by kernel_rfl
theorem zero88 : zeroC Tryd.prog 88 = some [.pointer none, .pointer none, .pointer none, .string ByteArray.empty] := by kernel_rfl
theorem field88_0 : fieldB Tryd.prog 88 0 = some (0, 17) := by kernel_rfl
theorem field88_1 : fieldB Tryd.prog 88 1 = some (1, 17) := by kernel_rfl
theorem field88_2 : fieldB Tryd.prog 88 2 = some (2, 17) := by kernel_rfl
theorem field88_3 : fieldB Tryd.prog 88 3 = some (3, 9) := by kernel_rfl
theorem isAgg89 : isAggB Tryd.prog 89 = some true := by kernel_rfl
theorem tsz89 : (Tryd.prog.types[89]'(of_decide_eq_true (by kernel_rfl))).size = 4 := by kernel_rfl
theorem size89 : sizeB Tryd.prog 89 = some 4 := by kernel_rfl
theorem intK89 : intKindB Tryd.prog 89 = none := by kernel_rfl
theorem elem89 : elemB Tryd.prog 89 = none := by kernel_rfl
theorem zero89 : zeroC Tryd.prog 89 = some [.pointer none, .pointer none, .pointer none, .string ByteArray.empty] := by kernel_rfl
theorem field89_0 : fieldB Tryd.prog 89 0 = some (0, 17) := by kernel_rfl
theorem field89_1 : fieldB Tryd.prog 89 1 = some (1, 17) := by kernel_rfl
theorem field89_2 : fieldB Tryd.prog 89 2 = some (2, 17) := by kernel_rfl
theorem field89_3 : fieldB Tryd.prog 89 3 = some (3, 9) := by kernel_rfl
theorem isAgg90 : isAggB Tryd.prog 90 = some true := by kernel_rfl
theorem tsz90 : (Tryd.prog.types[90]'(of_decide_eq_true (by kernel_rfl))).size = 0 := by kernel_rfl
theorem size90 : sizeB Tryd.prog 90 = some 0 := by kernel_rfl
theorem intK90 : intKindB Tryd.prog 90 = none := by kernel_rfl
theorem elem90 : elemB Tryd.prog 90 = none := by kernel_rfl
theorem arr90 : arrB Tryd.prog 90 = some (0, 16) := by kernel_rfl
theorem zero90 : zeroC Tryd.prog 90 = some [] := by kernel_rfl
theorem isAgg91 : isAggB Tryd.prog 91 = some true := by kernel_rfl
theorem tsz91 : (Tryd.prog.types[91]'(of_decide_eq_true (by kernel_rfl))).size = 0 := by kernel_rfl
theorem size91 : sizeB Tryd.prog 91 = some 0 := by kernel_rfl
theorem intK91 : intKindB Tryd.prog 91 = none := by kernel_rfl
theorem elem91 : elemB Tryd.prog 91 = none := by kernel_rfl
theorem zero91 : zeroC Tryd.prog 91 = some [] := by kernel_rfl
theorem field91_0 : fieldB Tryd.prog 91 0 = some (0, 90) := by kernel_rfl
theorem places91 : placesOf Tryd.prog 91 = some (fun i => (#[(0, 0)] : Array (Nat × Nat))[i]?) := by kernel_rfl
theorem isAgg92 : isAggB Tryd.prog 92 = some true := by kernel_rfl
theorem tsz92 : (Tryd.prog.types[92]'(of_decide_eq_true (by kernel_rfl))).size = 0 := by kernel_rfl
theorem size92 : sizeB Tryd.prog 92 = some 0 := by kernel_rfl
theorem intK92 : intKindB Tryd.prog 92 = none := by kernel_rfl
theorem elem92 : elemB Tryd.prog 92 = none := by kernel_rfl
theorem zero92 : zeroC Tryd.prog 92 = some [] := by kernel_rfl
theorem field92_0 : fieldB Tryd.prog 92 0 = some (0, 90) := by kernel_rfl
theorem places92 : placesOf Tryd.prog 92 = some (fun i => (#[(0, 0)] : Array (Nat × Nat))[i]?) := by kernel_rfl
theorem isAgg94 : isAggB Tryd.prog 94 = some false := by kernel_rfl
theorem tsz94 : (Tryd.prog.types[94]'(of_decide_eq_true (by kernel_rfl))).size = 1 := by kernel_rfl
theorem size94 : sizeB Tryd.prog 94 = some 1 := by kernel_rfl
theorem intK94 : intKindB Tryd.prog 94 = some .u8 := by kernel_rfl
theorem elem94 : elemB Tryd.prog 94 = none := by kernel_rfl
theorem und94 : Tryd.prog.underlying 94 = some (.int .u8) := by kernel_rfl
theorem zero94 : zeroC Tryd.prog 94 = some [.int .u8 0] := by kernel_rfl
theorem isAgg95 : isAggB Tryd.prog 95 = some false := by kernel_rfl
theorem tsz95 : (Tryd.prog.types[95]'(of_decide_eq_true (by kernel_rfl))).size = 1 := by kernel_rfl
theorem size95 : sizeB Tryd.prog 95 = some 1 := by kernel_rfl
theorem intK95 : intKindB Tryd.prog 95 = some .u8 := by kernel_rfl
theorem elem95 : elemB Tryd.prog 95 = none := by kernel_rfl
theorem und95 : Tryd.prog.underlying 95 = some (.int .u8) := by kernel_rfl
theorem zero95 : zeroC Tryd.prog 95 = some [.int .u8 0] := by kernel_rfl
theorem isAgg98 : isAggB Tryd.prog 98 = some false := by kernel_rfl
theorem tsz98 : (Tryd.prog.types[98]'(of_decide_eq_true (by kernel_rfl))).size = 1 := by kernel_rfl
theorem size98 : sizeB Tryd.prog 98 = some 1 := by kernel_rfl
theorem intK98 : intKindB Tryd.prog 98 = some .i32 := by kernel_rfl
theorem elem98 : elemB Tryd.prog 98 = none := by kernel_rfl
theorem zero98 : zeroC Tryd.prog 98 = some [.int .i32 0] := by kernel_rfl
theorem isAgg99 : isAggB Tryd.prog 99 = some false := by kernel_rfl
theorem tsz99 : (Tryd.prog.types[99]'(of_decide_eq_true (by kernel_rfl))).size = 1 := by kernel_rfl
theorem size99 : sizeB Tryd.prog 99 = some 1 := by kernel_rfl
theorem intK99 : intKindB Tryd.prog 99 = some .i32 := by kernel_rfl
theorem elem99 : elemB Tryd.prog 99 = none := by kernel_rfl
theorem zero99 : zeroC Tryd.prog 99 = some [.int .i32 0] := by kernel_rfl
theorem isAgg100 : isAggB Tryd.prog 100 = some true := by kernel_rfl
theorem tsz100 : (Tryd.prog.types[100]'(of_decide_eq_true (by kernel_rfl))).size = 11 := by kernel_rfl
theorem size100 : sizeB Tryd.prog 100 = some 11 := by kernel_rfl
theorem intK100 : intKindB Tryd.prog 100 = none := by kernel_rfl
theorem elem100 : elemB Tryd.prog 100 = none := by kernel_rfl
theorem zero100 : zeroC Tryd.prog 100 = some [.int .u64 0, .int .u64 0, .int .u32 0, .int .u8 0, .int .u8 0, .int .u8 0, .int .u8 0, .nilFunc, .pointer none, .int .i32 0, .int .i32 0] := by kernel_rfl
theorem field100_0 : fieldB Tryd.prog 100 0 = some (0, 12) := by kernel_rfl
theorem field100_1 : fieldB Tryd.prog 100 1 = some (1, 12) := by kernel_rfl
theorem field100_2 : fieldB Tryd.prog 100 2 = some (2, 67) := by kernel_rfl
theorem field100_3 : fieldB Tryd.prog 100 3 = some (3, 94) := by kernel_rfl
theorem field100_4 : fieldB Tryd.prog 100 4 = some (4, 5) := by kernel_rfl
theorem field100_5 : fieldB Tryd.prog 100 5 = some (5, 5) := by kernel_rfl
theorem field100_6 : fieldB Tryd.prog 100 6 = some (6, 95) := by kernel_rfl
theorem field100_7 : fieldB Tryd.prog 100 7 = some (7, 96) := by kernel_rfl
theorem field100_8 : fieldB Tryd.prog 100 8 = some (8, 97) := by kernel_rfl
theorem field100_9 : fieldB Tryd.prog 100 9 = some (9, 98) := by kernel_rfl
theorem field100_10 : fieldB Tryd.prog 100 10 = some (10, 99) := by kernel_rfl
theorem isAgg101 : isAggB Tryd.prog 101 = some true := by kernel_rfl
theorem tsz101 : (Tryd.prog.types[101]'(of_decide_eq_true (by kernel_rfl))).size = 11 := by kernel_rfl
theorem size101 : sizeB Tryd.prog 101 = some 11 := by kernel_rfl
theorem intK101 : intKindB Tryd.prog 101 = none := by kernel_rfl
theorem elem101 : elemB Tryd.prog 101 = none := by kernel_rfl
theorem zero101 : zeroC Tryd.prog 101 = some [.int .u64 0, .int .u64 0, .int .u32 0, .int .u8 0, .int .u8 0, .int .u8 0, .int .u8 0, .nilFunc, .pointer none, .int .i32 0, .int .i32 0] := by kernel_rfl
theorem field101_0 : fieldB Tryd.prog 101 0 = some (0, 12) := by kernel_rfl
theorem field101_1 : fieldB Tryd.prog 101 1 = some (1, 12) := by kernel_rfl
theorem field101_2 : fieldB Tryd.prog 101 2 = some (2, 67) := by kernel_rfl
theorem field101_3 : fieldB Tryd.prog 101 3 = some (3, 94) := by kernel_rfl
theorem field101_4 : fieldB Tryd.prog 101 4 = some (4, 5) := by kernel_rfl
theorem field101_5 : fieldB Tryd.prog 101 5 = some (5, 5) := by kernel_rfl
theorem field101_6 : fieldB Tryd.prog 101 6 = some (6, 95) := by kernel_rfl
theorem field101_7 : fieldB Tryd.prog 101 7 = some (7, 96) := by kernel_rfl
theorem field101_8 : fieldB Tryd.prog 101 8 = some (8, 97) := by kernel_rfl
theorem field101_9 : fieldB Tryd.prog 101 9 = some (9, 98) := by kernel_rfl
theorem field101_10 : fieldB Tryd.prog 101 10 = some (10, 99) := by kernel_rfl
theorem fnOk3 : FnOk Tryd.prog 3 := ⟨_, _, Tryd.func3, rfl, rfl⟩
theorem fnOk4 : FnOk Tryd.prog 4 := ⟨_, _, Tryd.func4, rfl, rfl⟩
theorem fnOk5 : FnOk Tryd.prog 5 := ⟨_, _, Tryd.func5, rfl, rfl⟩
theorem fnOk6 : FnOk Tryd.prog 6 := ⟨_, _, Tryd.func6, rfl, rfl⟩
theorem fnOk7 : FnOk Tryd.prog 7 := ⟨_, _, Tryd.func7, rfl, rfl⟩
theorem fnOk8 : FnOk Tryd.prog 8 := ⟨_, _, Tryd.func8, rfl, rfl⟩
theorem fnOk9 : FnOk Tryd.prog 9 := ⟨_, _, Tryd.func9, rfl, rfl⟩
theorem fnOk10 : FnOk Tryd.prog 10 := ⟨_, _, Tryd.func10, rfl, rfl⟩
theorem fnOk11 : FnOk Tryd.prog 11 := ⟨_, _, Tryd.func11, rfl, rfl⟩
theorem fnOk12 : FnOk Tryd.prog 12 := ⟨_, _, Tryd.func12, rfl, rfl⟩
theorem fnOk13 : FnOk Tryd.prog 13 := ⟨_, _, Tryd.func13, rfl, rfl⟩
theorem fnOk14 : FnOk Tryd.prog 14 := ⟨_, _, Tryd.func14, rfl, rfl⟩
theorem fnOk15 : FnOk Tryd.prog 15 := ⟨_, _, Tryd.func15, rfl, rfl⟩
theorem fnOk16 : FnOk Tryd.prog 16 := ⟨_, _, Tryd.func16, rfl, rfl⟩
theorem fnOk17 : FnOk Tryd.prog 17 := ⟨_, _, Tryd.func17, rfl, rfl⟩
theorem fnOk18 : FnOk Tryd.prog 18 := ⟨_, _, Tryd.func18, rfl, rfl⟩
theorem fnOk19 : FnOk Tryd.prog 19 := ⟨_, _, Tryd.func19, rfl, rfl⟩
theorem fnOk20 : FnOk Tryd.prog 20 := ⟨_, _, Tryd.func20, rfl, rfl⟩
theorem fnOk21 : FnOk Tryd.prog 21 := ⟨_, _, Tryd.func21, rfl, rfl⟩
theorem fnOk22 : FnOk Tryd.prog 22 := ⟨_, _, Tryd.func22, rfl, rfl⟩
theorem fnOk23 : FnOk Tryd.prog 23 := ⟨_, _, Tryd.func23, rfl, rfl⟩
theorem fnOk24 : FnOk Tryd.prog 24 := ⟨_, _, Tryd.func24, rfl, rfl⟩
theorem fnOk25 : FnOk Tryd.prog 25 := ⟨_, _, Tryd.func25, rfl, rfl⟩
theorem fnOk26 : FnOk Tryd.prog 26 := ⟨_, _, Tryd.func26, rfl, rfl⟩
theorem fnOk27 : FnOk Tryd.prog 27 := ⟨_, _, Tryd.func27, rfl, rfl⟩
theorem fnOk28 : FnOk Tryd.prog 28 := ⟨_, _, Tryd.func28, rfl, rfl⟩
theorem fnOk29 : FnOk Tryd.prog 29 := ⟨_, _, Tryd.func29, rfl, rfl⟩
theorem fnOk30 : FnOk Tryd.prog 30 := ⟨_, _, Tryd.func30, rfl, rfl⟩
theorem fnOk31 : FnOk Tryd.prog 31 := ⟨_, _, Tryd.func31, rfl, rfl⟩
theorem fnOk32 : FnOk Tryd.prog 32 := ⟨_, _, Tryd.func32, rfl, rfl⟩
theorem fnOk33 : FnOk Tryd.prog 33 := ⟨_, _, Tryd.func33, rfl, rfl⟩
theorem fnOk34 : FnOk Tryd.prog 34 := ⟨_, _, Tryd.func34, rfl, rfl⟩
theorem fnOk35 : FnOk Tryd.prog 35 := ⟨_, _, Tryd.func35, rfl, rfl⟩
theorem fnOk36 : FnOk Tryd.prog 36 := ⟨_, _, Tryd.func36, rfl, rfl⟩
theorem fnOk37 : FnOk Tryd.prog 37 := ⟨_, _, Tryd.func37, rfl, rfl⟩
theorem fnOk38 : FnOk Tryd.prog 38 := ⟨_, _, Tryd.func38, rfl, rfl⟩
theorem fnOk39 : FnOk Tryd.prog 39 := ⟨_, _, Tryd.func39, rfl, rfl⟩
theorem fnOk40 : FnOk Tryd.prog 40 := ⟨_, _, Tryd.func40, rfl, rfl⟩
theorem fnOk41 : FnOk Tryd.prog 41 := ⟨_, _, Tryd.func41, rfl, rfl⟩
theorem fnOk42 : FnOk Tryd.prog 42 := ⟨_, _, Tryd.func42, rfl, rfl⟩
theorem fnOk43 : FnOk Tryd.prog 43 := ⟨_, _, Tryd.func43, rfl, rfl⟩
theorem fnOk44 : FnOk Tryd.prog 44 := ⟨_, _, Tryd.func44, rfl, rfl⟩
theorem fnOk45 : FnOk Tryd.prog 45 := ⟨_, _, Tryd.func45, rfl, rfl⟩
theorem fnOk46 : FnOk Tryd.prog 46 := ⟨_, _, Tryd.func46, rfl, rfl⟩
theorem fnOk47 : FnOk Tryd.prog 47 := ⟨_, _, Tryd.func47, rfl, rfl⟩
theorem fnOk48 : FnOk Tryd.prog 48 := ⟨_, _, Tryd.func48, rfl, rfl⟩
theorem fnOk49 : FnOk Tryd.prog 49 := ⟨_, _, Tryd.func49, rfl, rfl⟩
theorem fnOk50 : FnOk Tryd.prog 50 := ⟨_, _, Tryd.func50, rfl, rfl⟩
theorem fnOk51 : FnOk Tryd.prog 51 := ⟨_, _, Tryd.func51, rfl, rfl⟩
theorem fnOk52 : FnOk Tryd.prog 52 := ⟨_, _, Tryd.func52, rfl, rfl⟩
theorem fnOk53 : FnOk Tryd.prog 53 := ⟨_, _, Tryd.func53, rfl, rfl⟩
theorem fnOk54 : FnOk Tryd.prog 54 := ⟨_, _, Tryd.func54, rfl, rfl⟩
theorem fnOk55 : FnOk Tryd.prog 55 := ⟨_, _, Tryd.func55, rfl, rfl⟩
theorem fnOk56 : FnOk Tryd.prog 56 := ⟨_, _, Tryd.func56, rfl, rfl⟩
theorem fnOk57 : FnOk Tryd.prog 57 := ⟨_, _, Tryd.func57, rfl, rfl⟩
theorem fnOk58 : FnOk Tryd.prog 58 := ⟨_, _, Tryd.func58, rfl, rfl⟩
theorem fnOk59 : FnOk Tryd.prog 59 := ⟨_, _, Tryd.func59, rfl, rfl⟩
theorem fnOk60 : FnOk Tryd.prog 60 := ⟨_, _, Tryd.func60, rfl, rfl⟩
theorem fnOk61 : FnOk Tryd.prog 61 := ⟨_, _, Tryd.func61, rfl, rfl⟩
theorem fnOk62 : FnOk Tryd.prog 62 := ⟨_, _, Tryd.func62, rfl, rfl⟩
theorem fnOk63 : FnOk Tryd.prog 63 := ⟨_, _, Tryd.func63, rfl, rfl⟩
theorem fnOk64 : FnOk Tryd.prog 64 := ⟨_, _, Tryd.func64, rfl, rfl⟩
theorem fnOk65 : FnOk Tryd.prog 65 := ⟨_, _, Tryd.func65, rfl, rfl⟩
theorem fnOk66 : FnOk Tryd.prog 66 := ⟨_, _, Tryd.func66, rfl, rfl⟩
theorem fnOk67 : FnOk Tryd.prog 67 := ⟨_, _, Tryd.func67, rfl, rfl⟩
theorem fnOk68 : FnOk Tryd.prog 68 := ⟨_, _, Tryd.func68, rfl, rfl⟩
theorem fnOk69 : FnOk Tryd.prog 69 := ⟨_, _, Tryd.func69, rfl, rfl⟩
theorem fnOk70 : FnOk Tryd.prog 70 := ⟨_, _, Tryd.func70, rfl, rfl⟩
theorem fnOk71 : FnOk Tryd.prog 71 := ⟨_, _, Tryd.func71, rfl, rfl⟩
theorem fnOk72 : FnOk Tryd.prog 72 := ⟨_, _, Tryd.func72, rfl, rfl⟩
theorem fnOk73 : FnOk Tryd.prog 73 := ⟨_, _, Tryd.func73, rfl, rfl⟩
theorem fnOk74 : FnOk Tryd.prog 74 := ⟨_, _, Tryd.func74, rfl, rfl⟩
theorem fnOk75 : FnOk Tryd.prog 75 := ⟨_, _, Tryd.func75, rfl, rfl⟩
theorem fnOk76 : FnOk Tryd.prog 76 := ⟨_, _, Tryd.func76, rfl, rfl⟩
theorem fnOk77 : FnOk Tryd.prog 77 := ⟨_, _, Tryd.func77, rfl, rfl⟩
theorem fnOk78 : FnOk Tryd.prog 78 := ⟨_, _, Tryd.func78, rfl, rfl⟩
theorem fnOk79 : FnOk Tryd.prog 79 := ⟨_, _, Tryd.func79, rfl, rfl⟩
theorem fnOk80 : FnOk Tryd.prog 80 := ⟨_, _, Tryd.func80, rfl, rfl⟩
theorem fnOk81 : FnOk Tryd.prog 81 := ⟨_, _, Tryd.func81, rfl, rfl⟩
theorem fnOk82 : FnOk Tryd.prog 82 := ⟨_, _, Tryd.func82, rfl, rfl⟩
theorem fnOk83 : FnOk Tryd.prog 83 := ⟨_, _, Tryd.func83, rfl, rfl⟩
theorem fnOk84 : FnOk Tryd.prog 84 := ⟨_, _, Tryd.func84, rfl, rfl⟩
end Go.Proofs.YtbcclcbmbejnmaaDoor
