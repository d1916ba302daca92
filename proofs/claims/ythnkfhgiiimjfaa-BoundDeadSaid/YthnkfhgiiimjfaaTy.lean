/- Closed facts on the types of the program, for the walk over plain values. -/
import Derived.Test.YthnkfhgiiimjfaaPw16
import Derived.Test.YthnkfhgiiimjfaaProg
namespace Go.Proofs.Ythnkfhgiiimjfaa
open Go Go.RowKit
theorem isAgg2 : isAggB Try.prog 2 = some false := by kernel_rfl
theorem tsz2 : (Try.prog.types[2]'(of_decide_eq_true (by kernel_rfl))).size = 1 := by kernel_rfl
theorem size2 : sizeB Try.prog 2 = some 1 := by kernel_rfl
theorem intK2 : intKindB Try.prog 2 = some .i64 := by kernel_rfl
theorem elem2 : elemB Try.prog 2 = none := by kernel_rfl
theorem zero2 : zeroC Try.prog 2 = some [.int .i64 0] := by kernel_rfl
theorem isAgg3 : isAggB Try.prog 3 = some false := by kernel_rfl
theorem tsz3 : (Try.prog.types[3]'(of_decide_eq_true (by kernel_rfl))).size = 1 := by kernel_rfl
theorem size3 : sizeB Try.prog 3 = some 1 := by kernel_rfl
theorem intK3 : intKindB Try.prog 3 = some .i64 := by kernel_rfl
theorem elem3 : elemB Try.prog 3 = none := by kernel_rfl
theorem zero3 : zeroC Try.prog 3 = some [.int .i64 0] := by kernel_rfl
theorem isAgg4 : isAggB Try.prog 4 = some false := by kernel_rfl
theorem tsz4 : (Try.prog.types[4]'(of_decide_eq_true (by kernel_rfl))).size = 1 := by kernel_rfl
theorem size4 : sizeB Try.prog 4 = some 1 := by kernel_rfl
theorem intK4 : intKindB Try.prog 4 = none := by kernel_rfl
theorem elem4 : elemB Try.prog 4 = none := by kernel_rfl
theorem und4 : Try.prog.underlying 4 = some .bool := by kernel_rfl
theorem zero4 : zeroC Try.prog 4 = some [.bool false] := by kernel_rfl
theorem isAgg5 : isAggB Try.prog 5 = some false := by kernel_rfl
theorem tsz5 : (Try.prog.types[5]'(of_decide_eq_true (by kernel_rfl))).size = 1 := by kernel_rfl
theorem size5 : sizeB Try.prog 5 = some 1 := by kernel_rfl
theorem intK5 : intKindB Try.prog 5 = some .u8 := by kernel_rfl
theorem elem5 : elemB Try.prog 5 = none := by kernel_rfl
theorem und5 : Try.prog.underlying 5 = some (.int .u8) := by kernel_rfl
theorem zero5 : zeroC Try.prog 5 = some [.int .u8 0] := by kernel_rfl
theorem isAgg6 : isAggB Try.prog 6 = some false := by kernel_rfl
theorem tsz6 : (Try.prog.types[6]'(of_decide_eq_true (by kernel_rfl))).size = 1 := by kernel_rfl
theorem size6 : sizeB Try.prog 6 = some 1 := by kernel_rfl
theorem intK6 : intKindB Try.prog 6 = some .u8 := by kernel_rfl
theorem elem6 : elemB Try.prog 6 = none := by kernel_rfl
theorem und6 : Try.prog.underlying 6 = some (.int .u8) := by kernel_rfl
theorem zero6 : zeroC Try.prog 6 = some [.int .u8 0] := by kernel_rfl
theorem isAgg7 : isAggB Try.prog 7 = some true := by kernel_rfl
theorem tsz7 : (Try.prog.types[7]'(of_decide_eq_true (by kernel_rfl))).size = 4 := by kernel_rfl
theorem size7 : sizeB Try.prog 7 = some 4 := by kernel_rfl
theorem intK7 : intKindB Try.prog 7 = none := by kernel_rfl
theorem elem7 : elemB Try.prog 7 = none := by kernel_rfl
theorem zero7 : zeroC Try.prog 7 = some [.int .i64 0, .int .i64 0, .bool false, .int .u8 0] := by kernel_rfl
theorem field7_0 : fieldB Try.prog 7 0 = some (0, 2) := by kernel_rfl
theorem field7_1 : fieldB Try.prog 7 1 = some (1, 3) := by kernel_rfl
theorem field7_2 : fieldB Try.prog 7 2 = some (2, 4) := by kernel_rfl
theorem field7_3 : fieldB Try.prog 7 3 = some (3, 6) := by kernel_rfl
theorem places7 : placesOf Try.prog 7 = some (fun i => (#[(0, 1), (1, 1), (2, 1), (3, 1)] : Array (Nat × Nat))[i]?) := by kernel_rfl
theorem isAgg8 : isAggB Try.prog 8 = some true := by kernel_rfl
theorem tsz8 : (Try.prog.types[8]'(of_decide_eq_true (by kernel_rfl))).size = 4 := by kernel_rfl
theorem size8 : sizeB Try.prog 8 = some 4 := by kernel_rfl
theorem intK8 : intKindB Try.prog 8 = none := by kernel_rfl
theorem elem8 : elemB Try.prog 8 = none := by kernel_rfl
theorem zero8 : zeroC Try.prog 8 = some [.int .i64 0, .int .i64 0, .bool false, .int .u8 0] := by kernel_rfl
theorem field8_0 : fieldB Try.prog 8 0 = some (0, 2) := by kernel_rfl
theorem field8_1 : fieldB Try.prog 8 1 = some (1, 3) := by kernel_rfl
theorem field8_2 : fieldB Try.prog 8 2 = some (2, 4) := by kernel_rfl
theorem field8_3 : fieldB Try.prog 8 3 = some (3, 6) := by kernel_rfl
theorem places8 : placesOf Try.prog 8 = some (fun i => (#[(0, 1), (1, 1), (2, 1), (3, 1)] : Array (Nat × Nat))[i]?) := by kernel_rfl
theorem isAgg9 : isAggB Try.prog 9 = some false := by kernel_rfl
theorem tsz9 : (Try.prog.types[9]'(of_decide_eq_true (by kernel_rfl))).size = 1 := by kernel_rfl
theorem size9 : sizeB Try.prog 9 = some 1 := by kernel_rfl
theorem intK9 : intKindB Try.prog 9 = none := by kernel_rfl
theorem elem9 : elemB Try.prog 9 = none := by kernel_rfl
theorem und9 : Try.prog.underlying 9 = some .string := by kernel_rfl
theorem zero9 : zeroC Try.prog 9 = some [.string ByteArray.empty] := by kernel_rfl
theorem isAgg10 : isAggB Try.prog 10 = some false := by kernel_rfl
theorem tsz10 : (Try.prog.types[10]'(of_decide_eq_true (by kernel_rfl))).size = 1 := by kernel_rfl
theorem size10 : sizeB Try.prog 10 = some 1 := by kernel_rfl
theorem intK10 : intKindB Try.prog 10 = none := by kernel_rfl
theorem elem10 : elemB Try.prog 10 = none := by kernel_rfl
theorem und10 : Try.prog.underlying 10 = some .string := by kernel_rfl
theorem zero10 : zeroC Try.prog 10 = some [.string ByteArray.empty] := by kernel_rfl
theorem isAgg11 : isAggB Try.prog 11 = some false := by kernel_rfl
theorem tsz11 : (Try.prog.types[11]'(of_decide_eq_true (by kernel_rfl))).size = 1 := by kernel_rfl
theorem size11 : sizeB Try.prog 11 = some 1 := by kernel_rfl
theorem intK11 : intKindB Try.prog 11 = none := by kernel_rfl
theorem elem11 : elemB Try.prog 11 = none := by kernel_rfl
theorem und11 : Try.prog.underlying 11 = some .string := by kernel_rfl
theorem zero11 : zeroC Try.prog 11 = some [.string ByteArray.empty] := by kernel_rfl
theorem isAgg12 : isAggB Try.prog 12 = some false := by kernel_rfl
theorem tsz12 : (Try.prog.types[12]'(of_decide_eq_true (by kernel_rfl))).size = 1 := by kernel_rfl
theorem size12 : sizeB Try.prog 12 = some 1 := by kernel_rfl
theorem intK12 : intKindB Try.prog 12 = some .u64 := by kernel_rfl
theorem elem12 : elemB Try.prog 12 = none := by kernel_rfl
theorem zero12 : zeroC Try.prog 12 = some [.int .u64 0] := by kernel_rfl
theorem isAgg13 : isAggB Try.prog 13 = some true := by kernel_rfl
theorem tsz13 : (Try.prog.types[13]'(of_decide_eq_true (by kernel_rfl))).size = 2 := by kernel_rfl
theorem size13 : sizeB Try.prog 13 = some 2 := by kernel_rfl
theorem intK13 : intKindB Try.prog 13 = none := by kernel_rfl
theorem elem13 : elemB Try.prog 13 = none := by kernel_rfl
theorem zero13 : zeroC Try.prog 13 = some [.string ByteArray.empty, .int .u64 0] := by kernel_rfl
theorem field13_0 : fieldB Try.prog 13 0 = some (0, 9) := by kernel_rfl
theorem field13_1 : fieldB Try.prog 13 1 = some (1, 12) := by kernel_rfl
theorem places13 : placesOf Try.prog 13 = some (fun i => (#[(0, 1), (1, 1)] : Array (Nat × Nat))[i]?) := by kernel_rfl
theorem isAgg14 : isAggB Try.prog 14 = some true := by kernel_rfl
theorem tsz14 : (Try.prog.types[14]'(of_decide_eq_true (by kernel_rfl))).size = 2 := by kernel_rfl
theorem size14 : sizeB Try.prog 14 = some 2 := by kernel_rfl
theorem intK14 : intKindB Try.prog 14 = none := by kernel_rfl
theorem elem14 : elemB Try.prog 14 = none := by kernel_rfl
theorem zero14 : zeroC Try.prog 14 = some [.string ByteArray.empty, .int .u64 0] := by kernel_rfl
theorem field14_0 : fieldB Try.prog 14 0 = some (0, 9) := by kernel_rfl
theorem field14_1 : fieldB Try.prog 14 1 = some (1, 12) := by kernel_rfl
theorem places14 : placesOf Try.prog 14 = some (fun i => (#[(0, 1), (1, 1)] : Array (Nat × Nat))[i]?) := by kernel_rfl
theorem isAgg18 : isAggB Try.prog 18 = some true := by kernel_rfl
theorem tsz18 : (Try.prog.types[18]'(of_decide_eq_true (by kernel_rfl))).size = 1 := by kernel_rfl
theorem size18 : sizeB Try.prog 18 = some 1 := by kernel_rfl
theorem intK18 : intKindB Try.prog 18 = none := by kernel_rfl
theorem elem18 : elemB Try.prog 18 = none := by kernel_rfl
theorem zero18 : zeroC Try.prog 18 = some [.pointer none] := by kernel_rfl
theorem field18_0 : fieldB Try.prog 18 0 = some (0, 17) := by kernel_rfl
theorem isAgg19 : isAggB Try.prog 19 = some true := by kernel_rfl
theorem tsz19 : (Try.prog.types[19]'(of_decide_eq_true (by kernel_rfl))).size = 1 := by kernel_rfl
theorem size19 : sizeB Try.prog 19 = some 1 := by kernel_rfl
theorem intK19 : intKindB Try.prog 19 = none := by kernel_rfl
theorem elem19 : elemB Try.prog 19 = none := by kernel_rfl
theorem zero19 : zeroC Try.prog 19 = some [.pointer none] := by kernel_rfl
theorem field19_0 : fieldB Try.prog 19 0 = some (0, 17) := by kernel_rfl
theorem isAgg21 : isAggB Try.prog 21 = some false := by kernel_rfl
theorem tsz21 : (Try.prog.types[21]'(of_decide_eq_true (by kernel_rfl))).size = 1 := by kernel_rfl
theorem size21 : sizeB Try.prog 21 = some 1 := by kernel_rfl
theorem intK21 : intKindB Try.prog 21 = some .i32 := by kernel_rfl
theorem elem21 : elemB Try.prog 21 = none := by kernel_rfl
theorem zero21 : zeroC Try.prog 21 = some [.int .i32 0] := by kernel_rfl
theorem isAgg22 : isAggB Try.prog 22 = some false := by kernel_rfl
theorem tsz22 : (Try.prog.types[22]'(of_decide_eq_true (by kernel_rfl))).size = 1 := by kernel_rfl
theorem size22 : sizeB Try.prog 22 = some 1 := by kernel_rfl
theorem intK22 : intKindB Try.prog 22 = none := by kernel_rfl
theorem elem22 : elemB Try.prog 22 = some 5 := by kernel_rfl
theorem zero22 : zeroC Try.prog 22 = some [.slice none 0 0] := by kernel_rfl
theorem elty22 : eltyB Try.prog 22 = some (5, 1, 1, [.int .u8 0]) := by kernel_rfl
theorem isAgg23 : isAggB Try.prog 23 = some false := by kernel_rfl
theorem tsz23 : (Try.prog.types[23]'(of_decide_eq_true (by kernel_rfl))).size = 1 := by kernel_rfl
theorem size23 : sizeB Try.prog 23 = some 1 := by kernel_rfl
theorem intK23 : intKindB Try.prog 23 = some .u64 := by kernel_rfl
theorem elem23 : elemB Try.prog 23 = none := by kernel_rfl
theorem zero23 : zeroC Try.prog 23 = some [.int .u64 0] := by kernel_rfl
theorem isAgg24 : isAggB Try.prog 24 = some true := by kernel_rfl
theorem tsz24 : (Try.prog.types[24]'(of_decide_eq_true (by kernel_rfl))).size = 11 := by kernel_rfl
theorem size24 : sizeB Try.prog 24 = some 11 := by kernel_rfl
theorem intK24 : intKindB Try.prog 24 = none := by kernel_rfl
theorem elem24 : elemB Try.prog 24 = none := by kernel_rfl
theorem zero24 : zeroC Try.prog 24 = some [.slice none 0 0, .int .i64 0, .int .i64 0, .int .i64 0, .int .i64 0, .int .i64 0, .int .i64 0, .int .i64 0, .int .i64 0, .int .u64 0, .int .u64 0] := by kernel_rfl
theorem field24_0 : fieldB Try.prog 24 0 = some (0, 22) := by kernel_rfl
theorem field24_1 : fieldB Try.prog 24 1 = some (1, 3) := by kernel_rfl
theorem field24_2 : fieldB Try.prog 24 2 = some (2, 3) := by kernel_rfl
theorem field24_3 : fieldB Try.prog 24 3 = some (3, 3) := by kernel_rfl
theorem field24_4 : fieldB Try.prog 24 4 = some (4, 3) := by kernel_rfl
theorem field24_5 : fieldB Try.prog 24 5 = some (5, 3) := by kernel_rfl
theorem field24_6 : fieldB Try.prog 24 6 = some (6, 3) := by kernel_rfl
theorem field24_7 : fieldB Try.prog 24 7 = some (7, 3) := by kernel_rfl
theorem field24_8 : fieldB Try.prog 24 8 = some (8, 3) := by kernel_rfl
theorem field24_9 : fieldB Try.prog 24 9 = some (9, 23) := by kernel_rfl
theorem field24_10 : fieldB Try.prog 24 10 = some (10, 23) := by kernel_rfl
theorem places24 : placesOf Try.prog 24 = some (fun i => (#[(0, 1), (1, 1), (2, 1), (3, 1), (4, 1), (5, 1), (6, 1), (7, 1), (8, 1), (9, 1), (10, 1)] : Array (Nat × Nat))[i]?) := by kernel_rfl
theorem isAgg25 : isAggB Try.prog 25 = some true := by kernel_rfl
theorem tsz25 : (Try.prog.types[25]'(of_decide_eq_true (by kernel_rfl))).size = 11 := by kernel_rfl
theorem size25 : sizeB Try.prog 25 = some 11 := by kernel_rfl
theorem intK25 : intKindB Try.prog 25 = none := by kernel_rfl
theorem elem25 : elemB Try.prog 25 = none := by kernel_rfl
theorem zero25 : zeroC Try.prog 25 = some [.slice none 0 0, .int .i64 0, .int .i64 0, .int .i64 0, .int .i64 0, .int .i64 0, .int .i64 0, .int .i64 0, .int .i64 0, .int .u64 0, .int .u64 0] := by kernel_rfl
theorem field25_0 : fieldB Try.prog 25 0 = some (0, 22) := by kernel_rfl
theorem field25_1 : fieldB Try.prog 25 1 = some (1, 3) := by kernel_rfl
theorem field25_2 : fieldB Try.prog 25 2 = some (2, 3) := by kernel_rfl
theorem field25_3 : fieldB Try.prog 25 3 = some (3, 3) := by kernel_rfl
theorem field25_4 : fieldB Try.prog 25 4 = some (4, 3) := by kernel_rfl
theorem field25_5 : fieldB Try.prog 25 5 = some (5, 3) := by kernel_rfl
theorem field25_6 : fieldB Try.prog 25 6 = some (6, 3) := by kernel_rfl
theorem field25_7 : fieldB Try.prog 25 7 = some (7, 3) := by kernel_rfl
theorem field25_8 : fieldB Try.prog 25 8 = some (8, 3) := by kernel_rfl
theorem field25_9 : fieldB Try.prog 25 9 = some (9, 23) := by kernel_rfl
theorem field25_10 : fieldB Try.prog 25 10 = some (10, 23) := by kernel_rfl
theorem places25 : placesOf Try.prog 25 = some (fun i => (#[(0, 1), (1, 1), (2, 1), (3, 1), (4, 1), (5, 1), (6, 1), (7, 1), (8, 1), (9, 1), (10, 1)] : Array (Nat × Nat))[i]?) := by kernel_rfl
theorem isAgg26 : isAggB Try.prog 26 = some false := by kernel_rfl
theorem tsz26 : (Try.prog.types[26]'(of_decide_eq_true (by kernel_rfl))).size = 1 := by kernel_rfl
theorem size26 : sizeB Try.prog 26 = some 1 := by kernel_rfl
theorem intK26 : intKindB Try.prog 26 = none := by kernel_rfl
theorem elem26 : elemB Try.prog 26 = some 81 := by kernel_rfl
theorem zero26 : zeroC Try.prog 26 = some [.slice none 0 0] := by kernel_rfl
theorem elty26 : eltyB Try.prog 26 = some (81, 4, 48, [.int .i64 0, .int .i64 0, .int .i64 0, .slice none 0 0]) := by kernel_rfl
theorem isAgg27 : isAggB Try.prog 27 = some false := by kernel_rfl
theorem tsz27 : (Try.prog.types[27]'(of_decide_eq_true (by kernel_rfl))).size = 1 := by kernel_rfl
theorem size27 : sizeB Try.prog 27 = some 1 := by kernel_rfl
theorem intK27 : intKindB Try.prog 27 = none := by kernel_rfl
theorem elem27 : elemB Try.prog 27 = some 3 := by kernel_rfl
theorem zero27 : zeroC Try.prog 27 = some [.slice none 0 0] := by kernel_rfl
theorem elty27 : eltyB Try.prog 27 = some (3, 1, 8, [.int .i64 0]) := by kernel_rfl
theorem isAgg28 : isAggB Try.prog 28 = some true := by kernel_rfl
theorem tsz28 : (Try.prog.types[28]'(of_decide_eq_true (by kernel_rfl))).size = 2 := by kernel_rfl
theorem size28 : sizeB Try.prog 28 = some 2 := by kernel_rfl
theorem intK28 : intKindB Try.prog 28 = none := by kernel_rfl
theorem elem28 : elemB Try.prog 28 = none := by kernel_rfl
theorem zero28 : zeroC Try.prog 28 = some [.slice none 0 0, .slice none 0 0] := by kernel_rfl
theorem field28_0 : fieldB Try.prog 28 0 = some (0, 26) := by kernel_rfl
theorem field28_1 : fieldB Try.prog 28 1 = some (1, 27) := by kernel_rfl
theorem places28 : placesOf Try.prog 28 = some (fun i => (#[(0, 1), (1, 1)] : Array (Nat × Nat))[i]?) := by kernel_rfl
theorem isAgg29 : isAggB Try.prog 29 = some true := by kernel_rfl
theorem tsz29 : (Try.prog.types[29]'(of_decide_eq_true (by kernel_rfl))).size = 2 := by kernel_rfl
theorem size29 : sizeB Try.prog 29 = some 2 := by kernel_rfl
theorem intK29 : intKindB Try.prog 29 = none := by kernel_rfl
theorem elem29 : elemB Try.prog 29 = none := by kernel_rfl
theorem zero29 : zeroC Try.prog 29 = some [.slice none 0 0, .slice none 0 0] := by kernel_rfl
theorem field29_0 : fieldB Try.prog 29 0 = some (0, 26) := by kernel_rfl
theorem field29_1 : fieldB Try.prog 29 1 = some (1, 27) := by kernel_rfl
theorem places29 : placesOf Try.prog 29 = some (fun i => (#[(0, 1), (1, 1)] : Array (Nat × Nat))[i]?) := by kernel_rfl
theorem isAgg30 : isAggB Try.prog 30 = some true := by kernel_rfl
theorem tsz30 : (Try.prog.types[30]'(of_decide_eq_true (by kernel_rfl))).size = 3 := by kernel_rfl
theorem size30 : sizeB Try.prog 30 = some 3 := by kernel_rfl
theorem intK30 : intKindB Try.prog 30 = none := by kernel_rfl
theorem elem30 : elemB Try.prog 30 = none := by kernel_rfl
theorem zero30 : zeroC Try.prog 30 = some [.int .u64 0, .int .u64 0, .slice none 0 0] := by kernel_rfl
theorem field30_0 : fieldB Try.prog 30 0 = some (0, 23) := by kernel_rfl
theorem field30_1 : fieldB Try.prog 30 1 = some (1, 23) := by kernel_rfl
theorem field30_2 : fieldB Try.prog 30 2 = some (2, 27) := by kernel_rfl
theorem places30 : placesOf Try.prog 30 = some (fun i => (#[(0, 1), (1, 1), (2, 1)] : Array (Nat × Nat))[i]?) := by kernel_rfl
theorem isAgg31 : isAggB Try.prog 31 = some true := by kernel_rfl
theorem tsz31 : (Try.prog.types[31]'(of_decide_eq_true (by kernel_rfl))).size = 3 := by kernel_rfl
theorem size31 : sizeB Try.prog 31 = some 3 := by kernel_rfl
theorem intK31 : intKindB Try.prog 31 = none := by kernel_rfl
theorem elem31 : elemB Try.prog 31 = none := by kernel_rfl
theorem zero31 : zeroC Try.prog 31 = some [.int .u64 0, .int .u64 0, .slice none 0 0] := by kernel_rfl
theorem field31_0 : fieldB Try.prog 31 0 = some (0, 23) := by kernel_rfl
theorem field31_1 : fieldB Try.prog 31 1 = some (1, 23) := by kernel_rfl
theorem field31_2 : fieldB Try.prog 31 2 = some (2, 27) := by kernel_rfl
theorem places31 : placesOf Try.prog 31 = some (fun i => (#[(0, 1), (1, 1), (2, 1)] : Array (Nat × Nat))[i]?) := by kernel_rfl
theorem isAgg32 : isAggB Try.prog 32 = some false := by kernel_rfl
theorem tsz32 : (Try.prog.types[32]'(of_decide_eq_true (by kernel_rfl))).size = 1 := by kernel_rfl
theorem size32 : sizeB Try.prog 32 = some 1 := by kernel_rfl
theorem intK32 : intKindB Try.prog 32 = none := by kernel_rfl
theorem elem32 : elemB Try.prog 32 = some 89 := by kernel_rfl
theorem zero32 : zeroC Try.prog 32 = some [.slice none 0 0] := by kernel_rfl
theorem elty32 : eltyB Try.prog 32 = some (89, 6, 96, [.int .i64 0, .int .i64 0, .slice none 0 0, .slice none 0 0, .int .i64 0, .slice none 0 0]) := by kernel_rfl
theorem isAgg33 : isAggB Try.prog 33 = some true := by kernel_rfl
theorem tsz33 : (Try.prog.types[33]'(of_decide_eq_true (by kernel_rfl))).size = 5 := by kernel_rfl
theorem size33 : sizeB Try.prog 33 = some 5 := by kernel_rfl
theorem intK33 : intKindB Try.prog 33 = none := by kernel_rfl
theorem elem33 : elemB Try.prog 33 = none := by kernel_rfl
theorem zero33 : zeroC Try.prog 33 = some [.int .i64 0, .int .u64 0, .int .u64 0, .slice none 0 0, .slice none 0 0] := by kernel_rfl
theorem field33_0 : fieldB Try.prog 33 0 = some (0, 3) := by kernel_rfl
theorem field33_1 : fieldB Try.prog 33 1 = some (1, 31) := by kernel_rfl
theorem field33_2 : fieldB Try.prog 33 2 = some (4, 32) := by kernel_rfl
theorem places33 : placesOf Try.prog 33 = some (fun i => (#[(0, 1), (1, 3), (4, 1)] : Array (Nat × Nat))[i]?) := by kernel_rfl
theorem isAgg34 : isAggB Try.prog 34 = some true := by kernel_rfl
theorem tsz34 : (Try.prog.types[34]'(of_decide_eq_true (by kernel_rfl))).size = 5 := by kernel_rfl
theorem size34 : sizeB Try.prog 34 = some 5 := by kernel_rfl
theorem intK34 : intKindB Try.prog 34 = none := by kernel_rfl
theorem elem34 : elemB Try.prog 34 = none := by kernel_rfl
theorem zero34 : zeroC Try.prog 34 = some [.int .i64 0, .int .u64 0, .int .u64 0, .slice none 0 0, .slice none 0 0] := by kernel_rfl
theorem field34_0 : fieldB Try.prog 34 0 = some (0, 3) := by kernel_rfl
theorem field34_1 : fieldB Try.prog 34 1 = some (1, 31) := by kernel_rfl
theorem field34_2 : fieldB Try.prog 34 2 = some (4, 32) := by kernel_rfl
theorem places34 : placesOf Try.prog 34 = some (fun i => (#[(0, 1), (1, 3), (4, 1)] : Array (Nat × Nat))[i]?) := by kernel_rfl
theorem isAgg35 : isAggB Try.prog 35 = some false := by kernel_rfl
theorem tsz35 : (Try.prog.types[35]'(of_decide_eq_true (by kernel_rfl))).size = 1 := by kernel_rfl
theorem size35 : sizeB Try.prog 35 = some 1 := by kernel_rfl
theorem intK35 : intKindB Try.prog 35 = none := by kernel_rfl
theorem elem35 : elemB Try.prog 35 = some 4 := by kernel_rfl
theorem zero35 : zeroC Try.prog 35 = some [.slice none 0 0] := by kernel_rfl
theorem elty35 : eltyB Try.prog 35 = some (4, 1, 1, [.bool false]) := by kernel_rfl
theorem isAgg36 : isAggB Try.prog 36 = some true := by kernel_rfl
theorem tsz36 : (Try.prog.types[36]'(of_decide_eq_true (by kernel_rfl))).size = 12 := by kernel_rfl
theorem size36 : sizeB Try.prog 36 = some 12 := by kernel_rfl
theorem intK36 : intKindB Try.prog 36 = none := by kernel_rfl
theorem elem36 : elemB Try.prog 36 = none := by kernel_rfl
theorem zero36 : zeroC Try.prog 36 = some [.int .i64 0, .int .u64 0, .int .u64 0, .slice none 0 0, .slice none 0 0, .slice none 0 0, .int .i64 0, .bool false, .slice none 0 0, .slice none 0 0, .bool false, .bool false] := by kernel_rfl
theorem field36_0 : fieldB Try.prog 36 0 = some (0, 34) := by kernel_rfl
theorem field36_1 : fieldB Try.prog 36 1 = some (5, 27) := by kernel_rfl
theorem field36_2 : fieldB Try.prog 36 2 = some (6, 3) := by kernel_rfl
theorem field36_3 : fieldB Try.prog 36 3 = some (7, 4) := by kernel_rfl
theorem field36_4 : fieldB Try.prog 36 4 = some (8, 35) := by kernel_rfl
theorem field36_5 : fieldB Try.prog 36 5 = some (9, 35) := by kernel_rfl
theorem field36_6 : fieldB Try.prog 36 6 = some (10, 4) := by kernel_rfl
theorem field36_7 : fieldB Try.prog 36 7 = some (11, 4) := by kernel_rfl
theorem places36 : placesOf Try.prog 36 = some (fun i => (#[(0, 5), (5, 1), (6, 1), (7, 1), (8, 1), (9, 1), (10, 1), (11, 1)] : Array (Nat × Nat))[i]?) := by kernel_rfl
theorem isAgg37 : isAggB Try.prog 37 = some true := by kernel_rfl
theorem tsz37 : (Try.prog.types[37]'(of_decide_eq_true (by kernel_rfl))).size = 12 := by kernel_rfl
theorem size37 : sizeB Try.prog 37 = some 12 := by kernel_rfl
theorem intK37 : intKindB Try.prog 37 = none := by kernel_rfl
theorem elem37 : elemB Try.prog 37 = none := by kernel_rfl
theorem zero37 : zeroC Try.prog 37 = some [.int .i64 0, .int .u64 0, .int .u64 0, .slice none 0 0, .slice none 0 0, .slice none 0 0, .int .i64 0, .bool false, .slice none 0 0, .slice none 0 0, .bool false, .bool false] := by kernel_rfl
theorem field37_0 : fieldB Try.prog 37 0 = some (0, 34) := by kernel_rfl
theorem field37_1 : fieldB Try.prog 37 1 = some (5, 27) := by kernel_rfl
theorem field37_2 : fieldB Try.prog 37 2 = some (6, 3) := by kernel_rfl
theorem field37_3 : fieldB Try.prog 37 3 = some (7, 4) := by kernel_rfl
theorem field37_4 : fieldB Try.prog 37 4 = some (8, 35) := by kernel_rfl
theorem field37_5 : fieldB Try.prog 37 5 = some (9, 35) := by kernel_rfl
theorem field37_6 : fieldB Try.prog 37 6 = some (10, 4) := by kernel_rfl
theorem field37_7 : fieldB Try.prog 37 7 = some (11, 4) := by kernel_rfl
theorem places37 : placesOf Try.prog 37 = some (fun i => (#[(0, 5), (5, 1), (6, 1), (7, 1), (8, 1), (9, 1), (10, 1), (11, 1)] : Array (Nat × Nat))[i]?) := by kernel_rfl
theorem isAgg38 : isAggB Try.prog 38 = some false := by kernel_rfl
theorem tsz38 : (Try.prog.types[38]'(of_decide_eq_true (by kernel_rfl))).size = 1 := by kernel_rfl
theorem size38 : sizeB Try.prog 38 = some 1 := by kernel_rfl
theorem intK38 : intKindB Try.prog 38 = none := by kernel_rfl
theorem elem38 : elemB Try.prog 38 = some 93 := by kernel_rfl
theorem zero38 : zeroC Try.prog 38 = some [.slice none 0 0] := by kernel_rfl
theorem elty38 : eltyB Try.prog 38 = some (93, 12, 208, [.int .i64 0, .int .u64 0, .int .u64 0, .slice none 0 0, .slice none 0 0, .slice none 0 0, .slice none 0 0, .bool false, .slice none 0 0, .slice none 0 0, .slice none 0 0, .bool false]) := by kernel_rfl
theorem isAgg39 : isAggB Try.prog 39 = some false := by kernel_rfl
theorem tsz39 : (Try.prog.types[39]'(of_decide_eq_true (by kernel_rfl))).size = 1 := by kernel_rfl
theorem size39 : sizeB Try.prog 39 = some 1 := by kernel_rfl
theorem intK39 : intKindB Try.prog 39 = none := by kernel_rfl
theorem elem39 : elemB Try.prog 39 = some 98 := by kernel_rfl
theorem zero39 : zeroC Try.prog 39 = some [.slice none 0 0] := by kernel_rfl
theorem elty39 : eltyB Try.prog 39 = some (98, 11, 152, [.int .i64 0, .int .i64 0, .int .u64 0, .int .u64 0, .slice none 0 0, .slice none 0 0, .int .u64 0, .slice none 0 0, .bool false, .slice none 0 0, .int .u64 0]) := by kernel_rfl
theorem isAgg40 : isAggB Try.prog 40 = some false := by kernel_rfl
theorem tsz40 : (Try.prog.types[40]'(of_decide_eq_true (by kernel_rfl))).size = 1 := by kernel_rfl
theorem size40 : sizeB Try.prog 40 = some 1 := by kernel_rfl
theorem intK40 : intKindB Try.prog 40 = none := by kernel_rfl
theorem elem40 : elemB Try.prog 40 = some 23 := by kernel_rfl
theorem zero40 : zeroC Try.prog 40 = some [.slice none 0 0] := by kernel_rfl
theorem elty40 : eltyB Try.prog 40 = some (23, 1, 8, [.int .u64 0]) := by kernel_rfl
theorem isAgg41 : isAggB Try.prog 41 = some false := by kernel_rfl
theorem tsz41 : (Try.prog.types[41]'(of_decide_eq_true (by kernel_rfl))).size = 1 := by kernel_rfl
theorem size41 : sizeB Try.prog 41 = some 1 := by kernel_rfl
theorem intK41 : intKindB Try.prog 41 = none := by kernel_rfl
theorem elem41 : elemB Try.prog 41 = some 94 := by kernel_rfl
theorem zero41 : zeroC Try.prog 41 = some [.slice none 0 0] := by kernel_rfl
theorem elty41 : eltyB Try.prog 41 = some (94, 1, 24, [.slice none 0 0]) := by kernel_rfl
theorem isAgg42 : isAggB Try.prog 42 = some true := by kernel_rfl
theorem tsz42 : (Try.prog.types[42]'(of_decide_eq_true (by kernel_rfl))).size = 2 := by kernel_rfl
theorem size42 : sizeB Try.prog 42 = some 2 := by kernel_rfl
theorem intK42 : intKindB Try.prog 42 = none := by kernel_rfl
theorem elem42 : elemB Try.prog 42 = none := by kernel_rfl
theorem zero42 : zeroC Try.prog 42 = some [.slice none 0 0, .slice none 0 0] := by kernel_rfl
theorem field42_0 : fieldB Try.prog 42 0 = some (0, 40) := by kernel_rfl
theorem field42_1 : fieldB Try.prog 42 1 = some (1, 41) := by kernel_rfl
theorem places42 : placesOf Try.prog 42 = some (fun i => (#[(0, 1), (1, 1)] : Array (Nat × Nat))[i]?) := by kernel_rfl
theorem isAgg43 : isAggB Try.prog 43 = some true := by kernel_rfl
theorem tsz43 : (Try.prog.types[43]'(of_decide_eq_true (by kernel_rfl))).size = 2 := by kernel_rfl
theorem size43 : sizeB Try.prog 43 = some 2 := by kernel_rfl
theorem intK43 : intKindB Try.prog 43 = none := by kernel_rfl
theorem elem43 : elemB Try.prog 43 = none := by kernel_rfl
theorem zero43 : zeroC Try.prog 43 = some [.slice none 0 0, .slice none 0 0] := by kernel_rfl
theorem field43_0 : fieldB Try.prog 43 0 = some (0, 40) := by kernel_rfl
theorem field43_1 : fieldB Try.prog 43 1 = some (1, 41) := by kernel_rfl
theorem places43 : placesOf Try.prog 43 = some (fun i => (#[(0, 1), (1, 1)] : Array (Nat × Nat))[i]?) := by kernel_rfl
theorem isAgg44 : isAggB Try.prog 44 = some true := by kernel_rfl
theorem tsz44 : (Try.prog.types[44]'(of_decide_eq_true (by kernel_rfl))).size = 3 := by kernel_rfl
theorem size44 : sizeB Try.prog 44 = some 3 := by kernel_rfl
theorem intK44 : intKindB Try.prog 44 = none := by kernel_rfl
theorem elem44 : elemB Try.prog 44 = none := by kernel_rfl
theorem zero44 : zeroC Try.prog 44 = some [.slice none 0 0, .slice none 0 0, .slice none 0 0] := by kernel_rfl
theorem field44_0 : fieldB Try.prog 44 0 = some (0, 27) := by kernel_rfl
theorem field44_1 : fieldB Try.prog 44 1 = some (1, 43) := by kernel_rfl
theorem places44 : placesOf Try.prog 44 = some (fun i => (#[(0, 1), (1, 2)] : Array (Nat × Nat))[i]?) := by kernel_rfl
theorem isAgg45 : isAggB Try.prog 45 = some true := by kernel_rfl
theorem tsz45 : (Try.prog.types[45]'(of_decide_eq_true (by kernel_rfl))).size = 3 := by kernel_rfl
theorem size45 : sizeB Try.prog 45 = some 3 := by kernel_rfl
theorem intK45 : intKindB Try.prog 45 = none := by kernel_rfl
theorem elem45 : elemB Try.prog 45 = none := by kernel_rfl
theorem zero45 : zeroC Try.prog 45 = some [.slice none 0 0, .slice none 0 0, .slice none 0 0] := by kernel_rfl
theorem field45_0 : fieldB Try.prog 45 0 = some (0, 27) := by kernel_rfl
theorem field45_1 : fieldB Try.prog 45 1 = some (1, 43) := by kernel_rfl
theorem places45 : placesOf Try.prog 45 = some (fun i => (#[(0, 1), (1, 2)] : Array (Nat × Nat))[i]?) := by kernel_rfl
theorem isAgg46 : isAggB Try.prog 46 = some false := by kernel_rfl
theorem tsz46 : (Try.prog.types[46]'(of_decide_eq_true (by kernel_rfl))).size = 1 := by kernel_rfl
theorem size46 : sizeB Try.prog 46 = some 1 := by kernel_rfl
theorem intK46 : intKindB Try.prog 46 = none := by kernel_rfl
theorem elem46 : elemB Try.prog 46 = some 100 := by kernel_rfl
theorem zero46 : zeroC Try.prog 46 = some [.slice none 0 0] := by kernel_rfl
theorem elty46 : eltyB Try.prog 46 = some (100, 8, 80, [.int .i64 0, .int .i64 0, .int .i64 0, .int .i64 0, .int .u64 0, .int .u64 0, .slice none 0 0, .bool false]) := by kernel_rfl
theorem isAgg47 : isAggB Try.prog 47 = some true := by kernel_rfl
theorem tsz47 : (Try.prog.types[47]'(of_decide_eq_true (by kernel_rfl))).size = 23 := by kernel_rfl
theorem size47 : sizeB Try.prog 47 = some 23 := by kernel_rfl
theorem intK47 : intKindB Try.prog 47 = none := by kernel_rfl
theorem elem47 : elemB Try.prog 47 = none := by kernel_rfl
theorem zero47 : zeroC Try.prog 47 = some [.int .i64 0, .slice none 0 0, .slice none 0 0, .int .i64 0, .int .u64 0, .int .u64 0, .slice none 0 0, .slice none 0 0, .slice none 0 0, .int .i64 0, .bool false, .slice none 0 0, .slice none 0 0, .bool false, .bool false, .slice none 0 0, .slice none 0 0, .slice none 0 0, .slice none 0 0, .slice none 0 0, .slice none 0 0, .slice none 0 0, .bool false] := by kernel_rfl
theorem field47_0 : fieldB Try.prog 47 0 = some (0, 3) := by kernel_rfl
theorem field47_1 : fieldB Try.prog 47 1 = some (1, 29) := by kernel_rfl
theorem field47_2 : fieldB Try.prog 47 2 = some (3, 37) := by kernel_rfl
theorem field47_3 : fieldB Try.prog 47 3 = some (15, 38) := by kernel_rfl
theorem field47_4 : fieldB Try.prog 47 4 = some (16, 35) := by kernel_rfl
theorem field47_5 : fieldB Try.prog 47 5 = some (17, 39) := by kernel_rfl
theorem field47_6 : fieldB Try.prog 47 6 = some (18, 45) := by kernel_rfl
theorem field47_7 : fieldB Try.prog 47 7 = some (21, 46) := by kernel_rfl
theorem field47_8 : fieldB Try.prog 47 8 = some (22, 4) := by kernel_rfl
theorem places47 : placesOf Try.prog 47 = some (fun i => (#[(0, 1), (1, 2), (3, 12), (15, 1), (16, 1), (17, 1), (18, 3), (21, 1), (22, 1)] : Array (Nat × Nat))[i]?) := by kernel_rfl
theorem isAgg48 : isAggB Try.prog 48 = some true := by kernel_rfl
theorem tsz48 : (Try.prog.types[48]'(of_decide_eq_true (by kernel_rfl))).size = 23 := by kernel_rfl
theorem size48 : sizeB Try.prog 48 = some 23 := by kernel_rfl
theorem intK48 : intKindB Try.prog 48 = none := by kernel_rfl
theorem elem48 : elemB Try.prog 48 = none := by kernel_rfl
theorem zero48 : zeroC Try.prog 48 = some [.int .i64 0, .slice none 0 0, .slice none 0 0, .int .i64 0, .int .u64 0, .int .u64 0, .slice none 0 0, .slice none 0 0, .slice none 0 0, .int .i64 0, .bool false, .slice none 0 0, .slice none 0 0, .bool false, .bool false, .slice none 0 0, .slice none 0 0, .slice none 0 0, .slice none 0 0, .slice none 0 0, .slice none 0 0, .slice none 0 0, .bool false] := by kernel_rfl
theorem field48_0 : fieldB Try.prog 48 0 = some (0, 3) := by kernel_rfl
theorem field48_1 : fieldB Try.prog 48 1 = some (1, 29) := by kernel_rfl
theorem field48_2 : fieldB Try.prog 48 2 = some (3, 37) := by kernel_rfl
theorem field48_3 : fieldB Try.prog 48 3 = some (15, 38) := by kernel_rfl
theorem field48_4 : fieldB Try.prog 48 4 = some (16, 35) := by kernel_rfl
theorem field48_5 : fieldB Try.prog 48 5 = some (17, 39) := by kernel_rfl
theorem field48_6 : fieldB Try.prog 48 6 = some (18, 45) := by kernel_rfl
theorem field48_7 : fieldB Try.prog 48 7 = some (21, 46) := by kernel_rfl
theorem field48_8 : fieldB Try.prog 48 8 = some (22, 4) := by kernel_rfl
theorem places48 : placesOf Try.prog 48 = some (fun i => (#[(0, 1), (1, 2), (3, 12), (15, 1), (16, 1), (17, 1), (18, 3), (21, 1), (22, 1)] : Array (Nat × Nat))[i]?) := by kernel_rfl
theorem isAgg55 : isAggB Try.prog 55 = some false := by kernel_rfl
theorem tsz55 : (Try.prog.types[55]'(of_decide_eq_true (by kernel_rfl))).size = 1 := by kernel_rfl
theorem size55 : sizeB Try.prog 55 = some 1 := by kernel_rfl
theorem intK55 : intKindB Try.prog 55 = some .i64 := by kernel_rfl
theorem elem55 : elemB Try.prog 55 = none := by kernel_rfl
theorem zero55 : zeroC Try.prog 55 = some [.int .i64 0] := by kernel_rfl
theorem isAgg65 : isAggB Try.prog 65 = some true := by kernel_rfl
theorem tsz65 : (Try.prog.types[65]'(of_decide_eq_true (by kernel_rfl))).size = 4 := by kernel_rfl
theorem size65 : sizeB Try.prog 65 = some 4 := by kernel_rfl
theorem intK65 : intKindB Try.prog 65 = none := by kernel_rfl
theorem elem65 : elemB Try.prog 65 = none := by kernel_rfl
theorem zero65 : zeroC Try.prog 65 = some [.pointer none, .pointer none, .pointer none, .string ByteArray.empty] := by kernel_rfl
theorem field65_0 : fieldB Try.prog 65 0 = some (0, 17) := by kernel_rfl
theorem field65_1 : fieldB Try.prog 65 1 = some (1, 17) := by kernel_rfl
theorem field65_2 : fieldB Try.prog 65 2 = some (2, 17) := by kernel_rfl
theorem field65_3 : fieldB Try.prog 65 3 = some (3, 9) := by kernel_rfl
theorem isAgg66 : isAggB Try.prog 66 = some true := by kernel_rfl
theorem tsz66 : (Try.prog.types[66]'(of_decide_eq_true (by kernel_rfl))).size = 4 := by kernel_rfl
theorem size66 : sizeB Try.prog 66 = some 4 := by kernel_rfl
theorem intK66 : intKindB Try.prog 66 = none := by kernel_rfl
theorem elem66 : elemB Try.prog 66 = none := by kernel_rfl
theorem zero66 : zeroC Try.prog 66 = some [.pointer none, .pointer none, .pointer none, .string ByteArray.empty] := by kernel_rfl
theorem field66_0 : fieldB Try.prog 66 0 = some (0, 17) := by kernel_rfl
theorem field66_1 : fieldB Try.prog 66 1 = some (1, 17) := by kernel_rfl
theorem field66_2 : fieldB Try.prog 66 2 = some (2, 17) := by kernel_rfl
theorem field66_3 : fieldB Try.prog 66 3 = some (3, 9) := by kernel_rfl
theorem isAgg67 : isAggB Try.prog 67 = some true := by kernel_rfl
theorem tsz67 : (Try.prog.types[67]'(of_decide_eq_true (by kernel_rfl))).size = 0 := by kernel_rfl
theorem size67 : sizeB Try.prog 67 = some 0 := by kernel_rfl
theorem intK67 : intKindB Try.prog 67 = none := by kernel_rfl
theorem elem67 : elemB Try.prog 67 = none := by kernel_rfl
theorem arr67 : arrB Try.prog 67 = some (0, 16) := by kernel_rfl
theorem zero67 : zeroC Try.prog 67 = some [] := by kernel_rfl
theorem isAgg68 : isAggB Try.prog 68 = some true := by kernel_rfl
theorem tsz68 : (Try.prog.types[68]'(of_decide_eq_true (by kernel_rfl))).size = 0 := by kernel_rfl
theorem size68 : sizeB Try.prog 68 = some 0 := by kernel_rfl
theorem intK68 : intKindB Try.prog 68 = none := by kernel_rfl
theorem elem68 : elemB Try.prog 68 = none := by kernel_rfl
theorem zero68 : zeroC Try.prog 68 = some [] := by kernel_rfl
theorem field68_0 : fieldB Try.prog 68 0 = some (0, 67) := by kernel_rfl
theorem places68 : placesOf Try.prog 68 = some (fun i => (#[(0, 0)] : Array (Nat × Nat))[i]?) := by kernel_rfl
theorem isAgg69 : isAggB Try.prog 69 = some true := by kernel_rfl
theorem tsz69 : (Try.prog.types[69]'(of_decide_eq_true (by kernel_rfl))).size = 0 := by kernel_rfl
theorem size69 : sizeB Try.prog 69 = some 0 := by kernel_rfl
theorem intK69 : intKindB Try.prog 69 = none := by kernel_rfl
theorem elem69 : elemB Try.prog 69 = none := by kernel_rfl
theorem zero69 : zeroC Try.prog 69 = some [] := by kernel_rfl
theorem field69_0 : fieldB Try.prog 69 0 = some (0, 67) := by kernel_rfl
theorem places69 : placesOf Try.prog 69 = some (fun i => (#[(0, 0)] : Array (Nat × Nat))[i]?) := by kernel_rfl
theorem isAgg71 : isAggB Try.prog 71 = some false := by kernel_rfl
theorem tsz71 : (Try.prog.types[71]'(of_decide_eq_true (by kernel_rfl))).size = 1 := by kernel_rfl
theorem size71 : sizeB Try.prog 71 = some 1 := by kernel_rfl
theorem intK71 : intKindB Try.prog 71 = some .u32 := by kernel_rfl
theorem elem71 : elemB Try.prog 71 = none := by kernel_rfl
theorem zero71 : zeroC Try.prog 71 = some [.int .u32 0] := by kernel_rfl
theorem isAgg72 : isAggB Try.prog 72 = some false := by kernel_rfl
theorem tsz72 : (Try.prog.types[72]'(of_decide_eq_true (by kernel_rfl))).size = 1 := by kernel_rfl
theorem size72 : sizeB Try.prog 72 = some 1 := by kernel_rfl
theorem intK72 : intKindB Try.prog 72 = some .u8 := by kernel_rfl
theorem elem72 : elemB Try.prog 72 = none := by kernel_rfl
theorem und72 : Try.prog.underlying 72 = some (.int .u8) := by kernel_rfl
theorem zero72 : zeroC Try.prog 72 = some [.int .u8 0] := by kernel_rfl
theorem isAgg73 : isAggB Try.prog 73 = some false := by kernel_rfl
theorem tsz73 : (Try.prog.types[73]'(of_decide_eq_true (by kernel_rfl))).size = 1 := by kernel_rfl
theorem size73 : sizeB Try.prog 73 = some 1 := by kernel_rfl
theorem intK73 : intKindB Try.prog 73 = some .u8 := by kernel_rfl
theorem elem73 : elemB Try.prog 73 = none := by kernel_rfl
theorem und73 : Try.prog.underlying 73 = some (.int .u8) := by kernel_rfl
theorem zero73 : zeroC Try.prog 73 = some [.int .u8 0] := by kernel_rfl
theorem isAgg76 : isAggB Try.prog 76 = some false := by kernel_rfl
theorem tsz76 : (Try.prog.types[76]'(of_decide_eq_true (by kernel_rfl))).size = 1 := by kernel_rfl
theorem size76 : sizeB Try.prog 76 = some 1 := by kernel_rfl
theorem intK76 : intKindB Try.prog 76 = some .i32 := by kernel_rfl
theorem elem76 : elemB Try.prog 76 = none := by kernel_rfl
theorem zero76 : zeroC Try.prog 76 = some [.int .i32 0] := by kernel_rfl
theorem isAgg77 : isAggB Try.prog 77 = some false := by kernel_rfl
theorem tsz77 : (Try.prog.types[77]'(of_decide_eq_true (by kernel_rfl))).size = 1 := by kernel_rfl
theorem size77 : sizeB Try.prog 77 = some 1 := by kernel_rfl
theorem intK77 : intKindB Try.prog 77 = some .i32 := by kernel_rfl
theorem elem77 : elemB Try.prog 77 = none := by kernel_rfl
theorem zero77 : zeroC Try.prog 77 = some [.int .i32 0] := by kernel_rfl
theorem isAgg78 : isAggB Try.prog 78 = some true := by kernel_rfl
theorem tsz78 : (Try.prog.types[78]'(of_decide_eq_true (by kernel_rfl))).size = 11 := by kernel_rfl
theorem size78 : sizeB Try.prog 78 = some 11 := by kernel_rfl
theorem intK78 : intKindB Try.prog 78 = none := by kernel_rfl
theorem elem78 : elemB Try.prog 78 = none := by kernel_rfl
theorem zero78 : zeroC Try.prog 78 = some [.int .u64 0, .int .u64 0, .int .u32 0, .int .u8 0, .int .u8 0, .int .u8 0, .int .u8 0, .nilFunc, .pointer none, .int .i32 0, .int .i32 0] := by kernel_rfl
theorem field78_0 : fieldB Try.prog 78 0 = some (0, 12) := by kernel_rfl
theorem field78_1 : fieldB Try.prog 78 1 = some (1, 12) := by kernel_rfl
theorem field78_2 : fieldB Try.prog 78 2 = some (2, 71) := by kernel_rfl
theorem field78_3 : fieldB Try.prog 78 3 = some (3, 72) := by kernel_rfl
theorem field78_4 : fieldB Try.prog 78 4 = some (4, 5) := by kernel_rfl
theorem field78_5 : fieldB Try.prog 78 5 = some (5, 5) := by kernel_rfl
theorem field78_6 : fieldB Try.prog 78 6 = some (6, 73) := by kernel_rfl
theorem field78_7 : fieldB Try.prog 78 7 = some (7, 74) := by kernel_rfl
theorem field78_8 : fieldB Try.prog 78 8 = some (8, 75) := by kernel_rfl
theorem field78_9 : fieldB Try.prog 78 9 = some (9, 76) := by kernel_rfl
theorem field78_10 : fieldB Try.prog 78 10 = some (10, 77) := by kernel_rfl
theorem isAgg79 : isAggB Try.prog 79 = some true := by kernel_rfl
theorem tsz79 : (Try.prog.types[79]'(of_decide_eq_true (by kernel_rfl))).size = 11 := by kernel_rfl
theorem size79 : sizeB Try.prog 79 = some 11 := by kernel_rfl
theorem intK79 : intKindB Try.prog 79 = none := by kernel_rfl
theorem elem79 : elemB Try.prog 79 = none := by kernel_rfl
theorem zero79 : zeroC Try.prog 79 = some [.int .u64 0, .int .u64 0, .int .u32 0, .int .u8 0, .int .u8 0, .int .u8 0, .int .u8 0, .nilFunc, .pointer none, .int .i32 0, .int .i32 0] := by kernel_rfl
theorem field79_0 : fieldB Try.prog 79 0 = some (0, 12) := by kernel_rfl
theorem field79_1 : fieldB Try.prog 79 1 = some (1, 12) := by kernel_rfl
theorem field79_2 : fieldB Try.prog 79 2 = some (2, 71) := by kernel_rfl
theorem field79_3 : fieldB Try.prog 79 3 = some (3, 72) := by kernel_rfl
theorem field79_4 : fieldB Try.prog 79 4 = some (4, 5) := by kernel_rfl
theorem field79_5 : fieldB Try.prog 79 5 = some (5, 5) := by kernel_rfl
theorem field79_6 : fieldB Try.prog 79 6 = some (6, 73) := by kernel_rfl
theorem field79_7 : fieldB Try.prog 79 7 = some (7, 74) := by kernel_rfl
theorem field79_8 : fieldB Try.prog 79 8 = some (8, 75) := by kernel_rfl
theorem field79_9 : fieldB Try.prog 79 9 = some (9, 76) := by kernel_rfl
theorem field79_10 : fieldB Try.prog 79 10 = some (10, 77) := by kernel_rfl
theorem isAgg80 : isAggB Try.prog 80 = some true := by kernel_rfl
theorem tsz80 : (Try.prog.types[80]'(of_decide_eq_true (by kernel_rfl))).size = 4 := by kernel_rfl
theorem size80 : sizeB Try.prog 80 = some 4 := by kernel_rfl
theorem intK80 : intKindB Try.prog 80 = none := by kernel_rfl
theorem elem80 : elemB Try.prog 80 = none := by kernel_rfl
theorem zero80 : zeroC Try.prog 80 = some [.int .i64 0, .int .i64 0, .int .i64 0, .slice none 0 0] := by kernel_rfl
theorem field80_0 : fieldB Try.prog 80 0 = some (0, 3) := by kernel_rfl
theorem field80_1 : fieldB Try.prog 80 1 = some (1, 3) := by kernel_rfl
theorem field80_2 : fieldB Try.prog 80 2 = some (2, 3) := by kernel_rfl
theorem field80_3 : fieldB Try.prog 80 3 = some (3, 22) := by kernel_rfl
theorem places80 : placesOf Try.prog 80 = some (fun i => (#[(0, 1), (1, 1), (2, 1), (3, 1)] : Array (Nat × Nat))[i]?) := by kernel_rfl
theorem isAgg81 : isAggB Try.prog 81 = some true := by kernel_rfl
theorem tsz81 : (Try.prog.types[81]'(of_decide_eq_true (by kernel_rfl))).size = 4 := by kernel_rfl
theorem size81 : sizeB Try.prog 81 = some 4 := by kernel_rfl
theorem intK81 : intKindB Try.prog 81 = none := by kernel_rfl
theorem elem81 : elemB Try.prog 81 = none := by kernel_rfl
theorem zero81 : zeroC Try.prog 81 = some [.int .i64 0, .int .i64 0, .int .i64 0, .slice none 0 0] := by kernel_rfl
theorem field81_0 : fieldB Try.prog 81 0 = some (0, 3) := by kernel_rfl
theorem field81_1 : fieldB Try.prog 81 1 = some (1, 3) := by kernel_rfl
theorem field81_2 : fieldB Try.prog 81 2 = some (2, 3) := by kernel_rfl
theorem field81_3 : fieldB Try.prog 81 3 = some (3, 22) := by kernel_rfl
theorem places81 : placesOf Try.prog 81 = some (fun i => (#[(0, 1), (1, 1), (2, 1), (3, 1)] : Array (Nat × Nat))[i]?) := by kernel_rfl
theorem isAgg82 : isAggB Try.prog 82 = some false := by kernel_rfl
theorem tsz82 : (Try.prog.types[82]'(of_decide_eq_true (by kernel_rfl))).size = 1 := by kernel_rfl
theorem size82 : sizeB Try.prog 82 = some 1 := by kernel_rfl
theorem intK82 : intKindB Try.prog 82 = none := by kernel_rfl
theorem elem82 : elemB Try.prog 82 = some 103 := by kernel_rfl
theorem zero82 : zeroC Try.prog 82 = some [.slice none 0 0] := by kernel_rfl
theorem elty82 : eltyB Try.prog 82 = some (103, 3, 40, [.int .i64 0, .slice none 0 0, .int .i64 0]) := by kernel_rfl
theorem isAgg83 : isAggB Try.prog 83 = some false := by kernel_rfl
theorem tsz83 : (Try.prog.types[83]'(of_decide_eq_true (by kernel_rfl))).size = 1 := by kernel_rfl
theorem size83 : sizeB Try.prog 83 = some 1 := by kernel_rfl
theorem intK83 : intKindB Try.prog 83 = none := by kernel_rfl
theorem elem83 : elemB Try.prog 83 = some 22 := by kernel_rfl
theorem zero83 : zeroC Try.prog 83 = some [.slice none 0 0] := by kernel_rfl
theorem elty83 : eltyB Try.prog 83 = some (22, 1, 24, [.slice none 0 0]) := by kernel_rfl
theorem isAgg84 : isAggB Try.prog 84 = some true := by kernel_rfl
theorem tsz84 : (Try.prog.types[84]'(of_decide_eq_true (by kernel_rfl))).size = 3 := by kernel_rfl
theorem size84 : sizeB Try.prog 84 = some 3 := by kernel_rfl
theorem intK84 : intKindB Try.prog 84 = none := by kernel_rfl
theorem elem84 : elemB Try.prog 84 = none := by kernel_rfl
theorem zero84 : zeroC Try.prog 84 = some [.int .i64 0, .slice none 0 0, .slice none 0 0] := by kernel_rfl
theorem field84_0 : fieldB Try.prog 84 0 = some (0, 3) := by kernel_rfl
theorem field84_1 : fieldB Try.prog 84 1 = some (1, 82) := by kernel_rfl
theorem field84_2 : fieldB Try.prog 84 2 = some (2, 83) := by kernel_rfl
theorem places84 : placesOf Try.prog 84 = some (fun i => (#[(0, 1), (1, 1), (2, 1)] : Array (Nat × Nat))[i]?) := by kernel_rfl
theorem isAgg85 : isAggB Try.prog 85 = some true := by kernel_rfl
theorem tsz85 : (Try.prog.types[85]'(of_decide_eq_true (by kernel_rfl))).size = 3 := by kernel_rfl
theorem size85 : sizeB Try.prog 85 = some 3 := by kernel_rfl
theorem intK85 : intKindB Try.prog 85 = none := by kernel_rfl
theorem elem85 : elemB Try.prog 85 = none := by kernel_rfl
theorem zero85 : zeroC Try.prog 85 = some [.int .i64 0, .slice none 0 0, .slice none 0 0] := by kernel_rfl
theorem field85_0 : fieldB Try.prog 85 0 = some (0, 3) := by kernel_rfl
theorem field85_1 : fieldB Try.prog 85 1 = some (1, 82) := by kernel_rfl
theorem field85_2 : fieldB Try.prog 85 2 = some (2, 83) := by kernel_rfl
theorem places85 : placesOf Try.prog 85 = some (fun i => (#[(0, 1), (1, 1), (2, 1)] : Array (Nat × Nat))[i]?) := by kernel_rfl
theorem isAgg86 : isAggB Try.prog 86 = some true := by kernel_rfl
theorem tsz86 : (Try.prog.types[86]'(of_decide_eq_true (by kernel_rfl))).size = 2 := by kernel_rfl
theorem size86 : sizeB Try.prog 86 = some 2 := by kernel_rfl
theorem intK86 : intKindB Try.prog 86 = none := by kernel_rfl
theorem elem86 : elemB Try.prog 86 = none := by kernel_rfl
theorem zero86 : zeroC Try.prog 86 = some [.int .i64 0, .slice none 0 0] := by kernel_rfl
theorem field86_0 : fieldB Try.prog 86 0 = some (0, 3) := by kernel_rfl
theorem field86_1 : fieldB Try.prog 86 1 = some (1, 82) := by kernel_rfl
theorem places86 : placesOf Try.prog 86 = some (fun i => (#[(0, 1), (1, 1)] : Array (Nat × Nat))[i]?) := by kernel_rfl
theorem isAgg87 : isAggB Try.prog 87 = some true := by kernel_rfl
theorem tsz87 : (Try.prog.types[87]'(of_decide_eq_true (by kernel_rfl))).size = 2 := by kernel_rfl
theorem size87 : sizeB Try.prog 87 = some 2 := by kernel_rfl
theorem intK87 : intKindB Try.prog 87 = none := by kernel_rfl
theorem elem87 : elemB Try.prog 87 = none := by kernel_rfl
theorem zero87 : zeroC Try.prog 87 = some [.int .i64 0, .slice none 0 0] := by kernel_rfl
theorem field87_0 : fieldB Try.prog 87 0 = some (0, 3) := by kernel_rfl
theorem field87_1 : fieldB Try.prog 87 1 = some (1, 82) := by kernel_rfl
theorem places87 : placesOf Try.prog 87 = some (fun i => (#[(0, 1), (1, 1)] : Array (Nat × Nat))[i]?) := by kernel_rfl
theorem isAgg88 : isAggB Try.prog 88 = some true := by kernel_rfl
theorem tsz88 : (Try.prog.types[88]'(of_decide_eq_true (by kernel_rfl))).size = 6 := by kernel_rfl
theorem size88 : sizeB Try.prog 88 = some 6 := by kernel_rfl
theorem intK88 : intKindB Try.prog 88 = none := by kernel_rfl
theorem elem88 : elemB Try.prog 88 = none := by kernel_rfl
theorem zero88 : zeroC Try.prog 88 = some [.int .i64 0, .int .i64 0, .slice none 0 0, .slice none 0 0, .int .i64 0, .slice none 0 0] := by kernel_rfl
theorem field88_0 : fieldB Try.prog 88 0 = some (0, 3) := by kernel_rfl
theorem field88_1 : fieldB Try.prog 88 1 = some (1, 85) := by kernel_rfl
theorem field88_2 : fieldB Try.prog 88 2 = some (4, 87) := by kernel_rfl
theorem places88 : placesOf Try.prog 88 = some (fun i => (#[(0, 1), (1, 3), (4, 2)] : Array (Nat × Nat))[i]?) := by kernel_rfl
theorem isAgg89 : isAggB Try.prog 89 = some true := by kernel_rfl
theorem tsz89 : (Try.prog.types[89]'(of_decide_eq_true (by kernel_rfl))).size = 6 := by kernel_rfl
theorem size89 : sizeB Try.prog 89 = some 6 := by kernel_rfl
theorem intK89 : intKindB Try.prog 89 = none := by kernel_rfl
theorem elem89 : elemB Try.prog 89 = none := by kernel_rfl
theorem zero89 : zeroC Try.prog 89 = some [.int .i64 0, .int .i64 0, .slice none 0 0, .slice none 0 0, .int .i64 0, .slice none 0 0] := by kernel_rfl
theorem field89_0 : fieldB Try.prog 89 0 = some (0, 3) := by kernel_rfl
theorem field89_1 : fieldB Try.prog 89 1 = some (1, 85) := by kernel_rfl
theorem field89_2 : fieldB Try.prog 89 2 = some (4, 87) := by kernel_rfl
theorem places89 : placesOf Try.prog 89 = some (fun i => (#[(0, 1), (1, 3), (4, 2)] : Array (Nat × Nat))[i]?) := by kernel_rfl
theorem isAgg90 : isAggB Try.prog 90 = some true := by kernel_rfl
theorem tsz90 : (Try.prog.types[90]'(of_decide_eq_true (by kernel_rfl))).size = 3 := by kernel_rfl
theorem size90 : sizeB Try.prog 90 = some 3 := by kernel_rfl
theorem intK90 : intKindB Try.prog 90 = none := by kernel_rfl
theorem elem90 : elemB Try.prog 90 = none := by kernel_rfl
theorem zero90 : zeroC Try.prog 90 = some [.slice none 0 0, .slice none 0 0, .slice none 0 0] := by kernel_rfl
theorem field90_0 : fieldB Try.prog 90 0 = some (0, 83) := by kernel_rfl
theorem field90_1 : fieldB Try.prog 90 1 = some (1, 27) := by kernel_rfl
theorem field90_2 : fieldB Try.prog 90 2 = some (2, 83) := by kernel_rfl
theorem places90 : placesOf Try.prog 90 = some (fun i => (#[(0, 1), (1, 1), (2, 1)] : Array (Nat × Nat))[i]?) := by kernel_rfl
theorem isAgg91 : isAggB Try.prog 91 = some true := by kernel_rfl
theorem tsz91 : (Try.prog.types[91]'(of_decide_eq_true (by kernel_rfl))).size = 3 := by kernel_rfl
theorem size91 : sizeB Try.prog 91 = some 3 := by kernel_rfl
theorem intK91 : intKindB Try.prog 91 = none := by kernel_rfl
theorem elem91 : elemB Try.prog 91 = none := by kernel_rfl
theorem zero91 : zeroC Try.prog 91 = some [.slice none 0 0, .slice none 0 0, .slice none 0 0] := by kernel_rfl
theorem field91_0 : fieldB Try.prog 91 0 = some (0, 83) := by kernel_rfl
theorem field91_1 : fieldB Try.prog 91 1 = some (1, 27) := by kernel_rfl
theorem field91_2 : fieldB Try.prog 91 2 = some (2, 83) := by kernel_rfl
theorem places91 : placesOf Try.prog 91 = some (fun i => (#[(0, 1), (1, 1), (2, 1)] : Array (Nat × Nat))[i]?) := by kernel_rfl
theorem isAgg92 : isAggB Try.prog 92 = some true := by kernel_rfl
theorem tsz92 : (Try.prog.types[92]'(of_decide_eq_true (by kernel_rfl))).size = 12 := by kernel_rfl
theorem size92 : sizeB Try.prog 92 = some 12 := by kernel_rfl
theorem intK92 : intKindB Try.prog 92 = none := by kernel_rfl
theorem elem92 : elemB Try.prog 92 = none := by kernel_rfl
theorem zero92 : zeroC Try.prog 92 = some [.int .i64 0, .int .u64 0, .int .u64 0, .slice none 0 0, .slice none 0 0, .slice none 0 0, .slice none 0 0, .bool false, .slice none 0 0, .slice none 0 0, .slice none 0 0, .bool false] := by kernel_rfl
theorem field92_0 : fieldB Try.prog 92 0 = some (0, 34) := by kernel_rfl
theorem field92_1 : fieldB Try.prog 92 1 = some (5, 27) := by kernel_rfl
theorem field92_2 : fieldB Try.prog 92 2 = some (6, 83) := by kernel_rfl
theorem field92_3 : fieldB Try.prog 92 3 = some (7, 4) := by kernel_rfl
theorem field92_4 : fieldB Try.prog 92 4 = some (8, 91) := by kernel_rfl
theorem field92_5 : fieldB Try.prog 92 5 = some (11, 4) := by kernel_rfl
theorem places92 : placesOf Try.prog 92 = some (fun i => (#[(0, 5), (5, 1), (6, 1), (7, 1), (8, 3), (11, 1)] : Array (Nat × Nat))[i]?) := by kernel_rfl
theorem isAgg93 : isAggB Try.prog 93 = some true := by kernel_rfl
theorem tsz93 : (Try.prog.types[93]'(of_decide_eq_true (by kernel_rfl))).size = 12 := by kernel_rfl
theorem size93 : sizeB Try.prog 93 = some 12 := by kernel_rfl
theorem intK93 : intKindB Try.prog 93 = none := by kernel_rfl
theorem elem93 : elemB Try.prog 93 = none := by kernel_rfl
theorem zero93 : zeroC Try.prog 93 = some [.int .i64 0, .int .u64 0, .int .u64 0, .slice none 0 0, .slice none 0 0, .slice none 0 0, .slice none 0 0, .bool false, .slice none 0 0, .slice none 0 0, .slice none 0 0, .bool false] := by kernel_rfl
theorem field93_0 : fieldB Try.prog 93 0 = some (0, 34) := by kernel_rfl
theorem field93_1 : fieldB Try.prog 93 1 = some (5, 27) := by kernel_rfl
theorem field93_2 : fieldB Try.prog 93 2 = some (6, 83) := by kernel_rfl
theorem field93_3 : fieldB Try.prog 93 3 = some (7, 4) := by kernel_rfl
theorem field93_4 : fieldB Try.prog 93 4 = some (8, 91) := by kernel_rfl
theorem field93_5 : fieldB Try.prog 93 5 = some (11, 4) := by kernel_rfl
theorem places93 : placesOf Try.prog 93 = some (fun i => (#[(0, 5), (5, 1), (6, 1), (7, 1), (8, 3), (11, 1)] : Array (Nat × Nat))[i]?) := by kernel_rfl
theorem isAgg94 : isAggB Try.prog 94 = some false := by kernel_rfl
theorem tsz94 : (Try.prog.types[94]'(of_decide_eq_true (by kernel_rfl))).size = 1 := by kernel_rfl
theorem size94 : sizeB Try.prog 94 = some 1 := by kernel_rfl
theorem intK94 : intKindB Try.prog 94 = none := by kernel_rfl
theorem elem94 : elemB Try.prog 94 = some 105 := by kernel_rfl
theorem zero94 : zeroC Try.prog 94 = some [.slice none 0 0] := by kernel_rfl
theorem elty94 : eltyB Try.prog 94 = some (105, 5, 56, [.bool false, .int .i64 0, .int .i64 0, .int .u64 0, .slice none 0 0]) := by kernel_rfl
theorem isAgg95 : isAggB Try.prog 95 = some true := by kernel_rfl
theorem tsz95 : (Try.prog.types[95]'(of_decide_eq_true (by kernel_rfl))).size = 2 := by kernel_rfl
theorem size95 : sizeB Try.prog 95 = some 2 := by kernel_rfl
theorem intK95 : intKindB Try.prog 95 = none := by kernel_rfl
theorem elem95 : elemB Try.prog 95 = none := by kernel_rfl
theorem zero95 : zeroC Try.prog 95 = some [.int .u64 0, .slice none 0 0] := by kernel_rfl
theorem field95_0 : fieldB Try.prog 95 0 = some (0, 23) := by kernel_rfl
theorem field95_1 : fieldB Try.prog 95 1 = some (1, 94) := by kernel_rfl
theorem places95 : placesOf Try.prog 95 = some (fun i => (#[(0, 1), (1, 1)] : Array (Nat × Nat))[i]?) := by kernel_rfl
theorem isAgg96 : isAggB Try.prog 96 = some true := by kernel_rfl
theorem tsz96 : (Try.prog.types[96]'(of_decide_eq_true (by kernel_rfl))).size = 2 := by kernel_rfl
theorem size96 : sizeB Try.prog 96 = some 2 := by kernel_rfl
theorem intK96 : intKindB Try.prog 96 = none := by kernel_rfl
theorem elem96 : elemB Try.prog 96 = none := by kernel_rfl
theorem zero96 : zeroC Try.prog 96 = some [.int .u64 0, .slice none 0 0] := by kernel_rfl
theorem field96_0 : fieldB Try.prog 96 0 = some (0, 23) := by kernel_rfl
theorem field96_1 : fieldB Try.prog 96 1 = some (1, 94) := by kernel_rfl
theorem places96 : placesOf Try.prog 96 = some (fun i => (#[(0, 1), (1, 1)] : Array (Nat × Nat))[i]?) := by kernel_rfl
theorem isAgg97 : isAggB Try.prog 97 = some true := by kernel_rfl
theorem tsz97 : (Try.prog.types[97]'(of_decide_eq_true (by kernel_rfl))).size = 11 := by kernel_rfl
theorem size97 : sizeB Try.prog 97 = some 11 := by kernel_rfl
theorem intK97 : intKindB Try.prog 97 = none := by kernel_rfl
theorem elem97 : elemB Try.prog 97 = none := by kernel_rfl
theorem zero97 : zeroC Try.prog 97 = some [.int .i64 0, .int .i64 0, .int .u64 0, .int .u64 0, .slice none 0 0, .slice none 0 0, .int .u64 0, .slice none 0 0, .bool false, .slice none 0 0, .int .u64 0] := by kernel_rfl
theorem field97_0 : fieldB Try.prog 97 0 = some (0, 3) := by kernel_rfl
theorem field97_1 : fieldB Try.prog 97 1 = some (1, 34) := by kernel_rfl
theorem field97_2 : fieldB Try.prog 97 2 = some (6, 96) := by kernel_rfl
theorem field97_3 : fieldB Try.prog 97 3 = some (8, 4) := by kernel_rfl
theorem field97_4 : fieldB Try.prog 97 4 = some (9, 22) := by kernel_rfl
theorem field97_5 : fieldB Try.prog 97 5 = some (10, 23) := by kernel_rfl
theorem places97 : placesOf Try.prog 97 = some (fun i => (#[(0, 1), (1, 5), (6, 2), (8, 1), (9, 1), (10, 1)] : Array (Nat × Nat))[i]?) := by kernel_rfl
theorem isAgg98 : isAggB Try.prog 98 = some true := by kernel_rfl
theorem tsz98 : (Try.prog.types[98]'(of_decide_eq_true (by kernel_rfl))).size = 11 := by kernel_rfl
theorem size98 : sizeB Try.prog 98 = some 11 := by kernel_rfl
theorem intK98 : intKindB Try.prog 98 = none := by kernel_rfl
theorem elem98 : elemB Try.prog 98 = none := by kernel_rfl
theorem zero98 : zeroC Try.prog 98 = some [.int .i64 0, .int .i64 0, .int .u64 0, .int .u64 0, .slice none 0 0, .slice none 0 0, .int .u64 0, .slice none 0 0, .bool false, .slice none 0 0, .int .u64 0] := by kernel_rfl
theorem field98_0 : fieldB Try.prog 98 0 = some (0, 3) := by kernel_rfl
theorem field98_1 : fieldB Try.prog 98 1 = some (1, 34) := by kernel_rfl
theorem field98_2 : fieldB Try.prog 98 2 = some (6, 96) := by kernel_rfl
theorem field98_3 : fieldB Try.prog 98 3 = some (8, 4) := by kernel_rfl
theorem field98_4 : fieldB Try.prog 98 4 = some (9, 22) := by kernel_rfl
theorem field98_5 : fieldB Try.prog 98 5 = some (10, 23) := by kernel_rfl
theorem places98 : placesOf Try.prog 98 = some (fun i => (#[(0, 1), (1, 5), (6, 2), (8, 1), (9, 1), (10, 1)] : Array (Nat × Nat))[i]?) := by kernel_rfl
theorem isAgg99 : isAggB Try.prog 99 = some true := by kernel_rfl
theorem tsz99 : (Try.prog.types[99]'(of_decide_eq_true (by kernel_rfl))).size = 8 := by kernel_rfl
theorem size99 : sizeB Try.prog 99 = some 8 := by kernel_rfl
theorem intK99 : intKindB Try.prog 99 = none := by kernel_rfl
theorem elem99 : elemB Try.prog 99 = none := by kernel_rfl
theorem zero99 : zeroC Try.prog 99 = some [.int .i64 0, .int .i64 0, .int .i64 0, .int .i64 0, .int .u64 0, .int .u64 0, .slice none 0 0, .bool false] := by kernel_rfl
theorem field99_0 : fieldB Try.prog 99 0 = some (0, 3) := by kernel_rfl
theorem field99_1 : fieldB Try.prog 99 1 = some (1, 3) := by kernel_rfl
theorem field99_2 : fieldB Try.prog 99 2 = some (2, 3) := by kernel_rfl
theorem field99_3 : fieldB Try.prog 99 3 = some (3, 3) := by kernel_rfl
theorem field99_4 : fieldB Try.prog 99 4 = some (4, 31) := by kernel_rfl
theorem field99_5 : fieldB Try.prog 99 5 = some (7, 4) := by kernel_rfl
theorem places99 : placesOf Try.prog 99 = some (fun i => (#[(0, 1), (1, 1), (2, 1), (3, 1), (4, 3), (7, 1)] : Array (Nat × Nat))[i]?) := by kernel_rfl
theorem isAgg100 : isAggB Try.prog 100 = some true := by kernel_rfl
theorem tsz100 : (Try.prog.types[100]'(of_decide_eq_true (by kernel_rfl))).size = 8 := by kernel_rfl
theorem size100 : sizeB Try.prog 100 = some 8 := by kernel_rfl
theorem intK100 : intKindB Try.prog 100 = none := by kernel_rfl
theorem elem100 : elemB Try.prog 100 = none := by kernel_rfl
theorem zero100 : zeroC Try.prog 100 = some [.int .i64 0, .int .i64 0, .int .i64 0, .int .i64 0, .int .u64 0, .int .u64 0, .slice none 0 0, .bool false] := by kernel_rfl
theorem field100_0 : fieldB Try.prog 100 0 = some (0, 3) := by kernel_rfl
theorem field100_1 : fieldB Try.prog 100 1 = some (1, 3) := by kernel_rfl
theorem field100_2 : fieldB Try.prog 100 2 = some (2, 3) := by kernel_rfl
theorem field100_3 : fieldB Try.prog 100 3 = some (3, 3) := by kernel_rfl
theorem field100_4 : fieldB Try.prog 100 4 = some (4, 31) := by kernel_rfl
theorem field100_5 : fieldB Try.prog 100 5 = some (7, 4) := by kernel_rfl
theorem places100 : placesOf Try.prog 100 = some (fun i => (#[(0, 1), (1, 1), (2, 1), (3, 1), (4, 3), (7, 1)] : Array (Nat × Nat))[i]?) := by kernel_rfl
theorem isAgg102 : isAggB Try.prog 102 = some true := by kernel_rfl
theorem tsz102 : (Try.prog.types[102]'(of_decide_eq_true (by kernel_rfl))).size = 3 := by kernel_rfl
theorem size102 : sizeB Try.prog 102 = some 3 := by kernel_rfl
theorem intK102 : intKindB Try.prog 102 = none := by kernel_rfl
theorem elem102 : elemB Try.prog 102 = none := by kernel_rfl
theorem zero102 : zeroC Try.prog 102 = some [.int .i64 0, .slice none 0 0, .int .i64 0] := by kernel_rfl
theorem field102_0 : fieldB Try.prog 102 0 = some (0, 3) := by kernel_rfl
theorem field102_1 : fieldB Try.prog 102 1 = some (1, 22) := by kernel_rfl
theorem field102_2 : fieldB Try.prog 102 2 = some (2, 3) := by kernel_rfl
theorem places102 : placesOf Try.prog 102 = some (fun i => (#[(0, 1), (1, 1), (2, 1)] : Array (Nat × Nat))[i]?) := by kernel_rfl
theorem isAgg103 : isAggB Try.prog 103 = some true := by kernel_rfl
theorem tsz103 : (Try.prog.types[103]'(of_decide_eq_true (by kernel_rfl))).size = 3 := by kernel_rfl
theorem size103 : sizeB Try.prog 103 = some 3 := by kernel_rfl
theorem intK103 : intKindB Try.prog 103 = none := by kernel_rfl
theorem elem103 : elemB Try.prog 103 = none := by kernel_rfl
theorem zero103 : zeroC Try.prog 103 = some [.int .i64 0, .slice none 0 0, .int .i64 0] := by kernel_rfl
theorem field103_0 : fieldB Try.prog 103 0 = some (0, 3) := by kernel_rfl
theorem field103_1 : fieldB Try.prog 103 1 = some (1, 22) := by kernel_rfl
theorem field103_2 : fieldB Try.prog 103 2 = some (2, 3) := by kernel_rfl
theorem places103 : placesOf Try.prog 103 = some (fun i => (#[(0, 1), (1, 1), (2, 1)] : Array (Nat × Nat))[i]?) := by kernel_rfl
theorem isAgg104 : isAggB Try.prog 104 = some true := by kernel_rfl
theorem tsz104 : (Try.prog.types[104]'(of_decide_eq_true (by kernel_rfl))).size = 5 := by kernel_rfl
theorem size104 : sizeB Try.prog 104 = some 5 := by kernel_rfl
theorem intK104 : intKindB Try.prog 104 = none := by kernel_rfl
theorem elem104 : elemB Try.prog 104 = none := by kernel_rfl
theorem zero104 : zeroC Try.prog 104 = some [.bool false, .int .i64 0, .int .i64 0, .int .u64 0, .slice none 0 0] := by kernel_rfl
theorem field104_0 : fieldB Try.prog 104 0 = some (0, 4) := by kernel_rfl
theorem field104_1 : fieldB Try.prog 104 1 = some (1, 3) := by kernel_rfl
theorem field104_2 : fieldB Try.prog 104 2 = some (2, 3) := by kernel_rfl
theorem field104_3 : fieldB Try.prog 104 3 = some (3, 23) := by kernel_rfl
theorem field104_4 : fieldB Try.prog 104 4 = some (4, 22) := by kernel_rfl
theorem places104 : placesOf Try.prog 104 = some (fun i => (#[(0, 1), (1, 1), (2, 1), (3, 1), (4, 1)] : Array (Nat × Nat))[i]?) := by kernel_rfl
theorem isAgg105 : isAggB Try.prog 105 = some true := by kernel_rfl
theorem tsz105 : (Try.prog.types[105]'(of_decide_eq_true (by kernel_rfl))).size = 5 := by kernel_rfl
theorem size105 : sizeB Try.prog 105 = some 5 := by kernel_rfl
theorem intK105 : intKindB Try.prog 105 = none := by kernel_rfl
theorem elem105 : elemB Try.prog 105 = none := by kernel_rfl
theorem zero105 : zeroC Try.prog 105 = some [.bool false, .int .i64 0, .int .i64 0, .int .u64 0, .slice none 0 0] := by kernel_rfl
theorem field105_0 : fieldB Try.prog 105 0 = some (0, 4) := by kernel_rfl
theorem field105_1 : fieldB Try.prog 105 1 = some (1, 3) := by kernel_rfl
theorem field105_2 : fieldB Try.prog 105 2 = some (2, 3) := by kernel_rfl
theorem field105_3 : fieldB Try.prog 105 3 = some (3, 23) := by kernel_rfl
theorem field105_4 : fieldB Try.prog 105 4 = some (4, 22) := by kernel_rfl
theorem places105 : placesOf Try.prog 105 = some (fun i => (#[(0, 1), (1, 1), (2, 1), (3, 1), (4, 1)] : Array (Nat × Nat))[i]?) := by kernel_rfl
theorem fnOk3 : FnOk Try.prog 3 := ⟨_, _, Try.func3, rfl, rfl⟩
theorem fnOk4 : FnOk Try.prog 4 := ⟨_, _, Try.func4, rfl, rfl⟩
theorem fnOk5 : FnOk Try.prog 5 := ⟨_, _, Try.func5, rfl, rfl⟩
theorem fnOk6 : FnOk Try.prog 6 := ⟨_, _, Try.func6, rfl, rfl⟩
theorem fnOk7 : FnOk Try.prog 7 := ⟨_, _, Try.func7, rfl, rfl⟩
theorem fnOk8 : FnOk Try.prog 8 := ⟨_, _, Try.func8, rfl, rfl⟩
theorem fnOk9 : FnOk Try.prog 9 := ⟨_, _, Try.func9, rfl, rfl⟩
theorem fnOk10 : FnOk Try.prog 10 := ⟨_, _, Try.func10, rfl, rfl⟩
theorem fnOk11 : FnOk Try.prog 11 := ⟨_, _, Try.func11, rfl, rfl⟩
theorem fnOk12 : FnOk Try.prog 12 := ⟨_, _, Try.func12, rfl, rfl⟩
theorem fnOk13 : FnOk Try.prog 13 := ⟨_, _, Try.func13, rfl, rfl⟩
theorem fnOk14 : FnOk Try.prog 14 := ⟨_, _, Try.func14, rfl, rfl⟩
theorem fnOk15 : FnOk Try.prog 15 := ⟨_, _, Try.func15, rfl, rfl⟩
theorem fnOk16 : FnOk Try.prog 16 := ⟨_, _, Try.func16, rfl, rfl⟩
theorem fnOk17 : FnOk Try.prog 17 := ⟨_, _, Try.func17, rfl, rfl⟩
theorem fnOk18 : FnOk Try.prog 18 := ⟨_, _, Try.func18, rfl, rfl⟩
theorem fnOk19 : FnOk Try.prog 19 := ⟨_, _, Try.func19, rfl, rfl⟩
end Go.Proofs.Ythnkfhgiiimjfaa
