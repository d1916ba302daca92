/- Closed facts on the types of the program, for the walk over plain values. -/
import Derived.Test.YtjmchiofkjkidaaPw16
import Derived.Test.YtjmchiofkjkidaaProg
namespace Go.Proofs.Ytjmchiofkjkidaa
open Go Go.RowKit
theorem isAgg2 : isAggB Try.prog 2 = some false := by kernel_rfl
theorem tsz2 : (Try.prog.types[2]'(of_decide_eq_true (by kernel_rfl))).size = 1 := by kernel_rfl
theorem size2 : sizeB Try.prog 2 = some 1 := by kernel_rfl
theorem intK2 : intKindB Try.prog 2 = some .i64 := by kernel_rfl
theorem elem2 : elemB Try.prog 2 = none := by kernel_rfl
theorem zero2 : zeroC Try.prog 2 = some [.int .i64 0] := by kernel_rfl
theorem isAgg3 : isAggB Try.prog 3 = some false := by kernel_rfl
theorem tsz3 : (Try.prog.types[3]'(of_decide_eq_true (by kernel_rfl))).size = 1 := by kernel_rfl
theorem size3 : sizeB Try.prog 3 = some 1 := by kernel_rfl
theorem intK3 : intKindB Try.prog 3 = some .i64 := by kernel_rfl
theorem elem3 : elemB Try.prog 3 = none := by kernel_rfl
theorem zero3 : zeroC Try.prog 3 = some [.int .i64 0] := by kernel_rfl
theorem isAgg4 : isAggB Try.prog 4 = some false := by kernel_rfl
theorem tsz4 : (Try.prog.types[4]'(of_decide_eq_true (by kernel_rfl))).size = 1 := by kernel_rfl
theorem size4 : sizeB Try.prog 4 = some 1 := by kernel_rfl
theorem intK4 : intKindB Try.prog 4 = none := by kernel_rfl
theorem elem4 : elemB Try.prog 4 = none := by kernel_rfl
theorem und4 : Try.prog.underlying 4 = some .bool := by kernel_rfl
theorem zero4 : zeroC Try.prog 4 = some [.bool false] := by kernel_rfl
theorem isAgg5 : isAggB Try.prog 5 = some false := by kernel_rfl
theorem tsz5 : (Try.prog.types[5]'(of_decide_eq_true (by kernel_rfl))).size = 1 := by kernel_rfl
theorem size5 : sizeB Try.prog 5 = some 1 := by kernel_rfl
theorem intK5 : intKindB Try.prog 5 = some .u8 := by kernel_rfl
theorem elem5 : elemB Try.prog 5 = none := by kernel_rfl
theorem und5 : Try.prog.underlying 5 = some (.int .u8) := by kernel_rfl
theorem zero5 : zeroC Try.prog 5 = some [.int .u8 0] := by kernel_rfl
theorem isAgg6 : isAggB Try.prog 6 = some false := by kernel_rfl
theorem tsz6 : (Try.prog.types[6]'(of_decide_eq_true (by kernel_rfl))).size = 1 := by kernel_rfl
theorem size6 : sizeB Try.prog 6 = some 1 := by kernel_rfl
theorem intK6 : intKindB Try.prog 6 = some .u8 := by kernel_rfl
theorem elem6 : elemB Try.prog 6 = none := by kernel_rfl
theorem und6 : Try.prog.underlying 6 = some (.int .u8) := by kernel_rfl
theorem zero6 : zeroC Try.prog 6 = some [.int .u8 0] := by kernel_rfl
theorem isAgg7 : isAggB Try.prog 7 = some true := by kernel_rfl
theorem tsz7 : (Try.prog.types[7]'(of_decide_eq_true (by kernel_rfl))).size = 4 := by kernel_rfl
theorem size7 : sizeB Try.prog 7 = some 4 := by kernel_rfl
theorem intK7 : intKindB Try.prog 7 = none := by kernel_rfl
theorem elem7 : elemB Try.prog 7 = none := by kernel_rfl
theorem zero7 : zeroC Try.prog 7 = some [.int .i64 0, .int .i64 0, .bool false, .int .u8 0] := by kernel_rfl
theorem field7_0 : fieldB Try.prog 7 0 = some (0, 2) := by kernel_rfl
theorem field7_1 : fieldB Try.prog 7 1 = some (1, 3) := by kernel_rfl
theorem field7_2 : fieldB Try.prog 7 2 = some (2, 4) := by kernel_rfl
theorem field7_3 : fieldB Try.prog 7 3 = some (3, 6) := by kernel_rfl
theorem places7 : placesOf Try.prog 7 = some (fun i => (#[(0, 1), (1, 1), (2, 1), (3, 1)] : Array (Nat × Nat))[i]?) := by kernel_rfl
theorem isAgg8 : isAggB Try.prog 8 = some true := by kernel_rfl
theorem tsz8 : (Try.prog.types[8]'(of_decide_eq_true (by kernel_rfl))).size = 4 := by kernel_rfl
theorem size8 : sizeB Try.prog 8 = some 4 := by kernel_rfl
theorem intK8 : intKindB Try.prog 8 = none := by kernel_rfl
theorem elem8 : elemB Try.prog 8 = none := by kernel_rfl
theorem zero8 : zeroC Try.prog 8 = some [.int .i64 0, .int .i64 0, .bool false, .int .u8 0] := by kernel_rfl
theorem field8_0 : fieldB Try.prog 8 0 = some (0, 2) := by kernel_rfl
theorem field8_1 : fieldB Try.prog 8 1 = some (1, 3) := by kernel_rfl
theorem field8_2 : fieldB Try.prog 8 2 = some (2, 4) := by kernel_rfl
theorem field8_3 : fieldB Try.prog 8 3 = some (3, 6) := by kernel_rfl
theorem places8 : placesOf Try.prog 8 = some (fun i => (#[(0, 1), (1, 1), (2, 1), (3, 1)] : Array (Nat × Nat))[i]?) := by kernel_rfl
theorem isAgg9 : isAggB Try.prog 9 = some false := by kernel_rfl
theorem tsz9 : (Try.prog.types[9]'(of_decide_eq_true (by kernel_rfl))).size = 1 := by kernel_rfl
theorem size9 : sizeB Try.prog 9 = some 1 := by kernel_rfl
theorem intK9 : intKindB Try.prog 9 = none := by kernel_rfl
theorem elem9 : elemB Try.prog 9 = none := by kernel_rfl
theorem und9 : Try.prog.underlying 9 = some .string := by kernel_rfl
theorem zero9 : zeroC Try.prog 9 = some [.string ByteArray.empty] := by kernel_rfl
theorem isAgg10 : isAggB Try.prog 10 = some false := by kernel_rfl
theorem tsz10 : (Try.prog.types[10]'(of_decide_eq_true (by kernel_rfl))).size = 1 := by kernel_rfl
theorem size10 : sizeB Try.prog 10 = some 1 := by kernel_rfl
theorem intK10 : intKindB Try.prog 10 = none := by kernel_rfl
theorem elem10 : elemB Try.prog 10 = none := by kernel_rfl
theorem und10 : Try.prog.underlying 10 = some .string := by kernel_rfl
theorem zero10 : zeroC Try.prog 10 = some [.string ByteArray.empty] := by kernel_rfl
theorem isAgg11 : isAggB Try.prog 11 = some false := by kernel_rfl
theorem tsz11 : (Try.prog.types[11]'(of_decide_eq_true (by kernel_rfl))).size = 1 := by kernel_rfl
theorem size11 : sizeB Try.prog 11 = some 1 := by kernel_rfl
theorem intK11 : intKindB Try.prog 11 = none := by kernel_rfl
theorem elem11 : elemB Try.prog 11 = none := by kernel_rfl
theorem und11 : Try.prog.underlying 11 = some .string := by kernel_rfl
theorem zero11 : zeroC Try.prog 11 = some [.string ByteArray.empty] := by kernel_rfl
theorem isAgg12 : isAggB Try.prog 12 = some false := by kernel_rfl
theorem tsz12 : (Try.prog.types[12]'(of_decide_eq_true (by kernel_rfl))).size = 1 := by kernel_rfl
theorem size12 : sizeB Try.prog 12 = some 1 := by kernel_rfl
theorem intK12 : intKindB Try.prog 12 = some .u64 := by kernel_rfl
theorem elem12 : elemB Try.prog 12 = none := by kernel_rfl
theorem zero12 : zeroC Try.prog 12 = some [.int .u64 0] := by kernel_rfl
theorem isAgg13 : isAggB Try.prog 13 = some true := by kernel_rfl
theorem tsz13 : (Try.prog.types[13]'(of_decide_eq_true (by kernel_rfl))).size = 2 := by kernel_rfl
theorem size13 : sizeB Try.prog 13 = some 2 := by kernel_rfl
theorem intK13 : intKindB Try.prog 13 = none := by kernel_rfl
theorem elem13 : elemB Try.prog 13 = none := by kernel_rfl
theorem zero13 : zeroC Try.prog 13 = some [.string ByteArray.empty, .int .u64 0] := by kernel_rfl
theorem field13_0 : fieldB Try.prog 13 0 = some (0, 9) := by kernel_rfl
theorem field13_1 : fieldB Try.prog 13 1 = some (1, 12) := by kernel_rfl
theorem places13 : placesOf Try.prog 13 = some (fun i => (#[(0, 1), (1, 1)] : Array (Nat × Nat))[i]?) := by kernel_rfl
theorem isAgg14 : isAggB Try.prog 14 = some true := by kernel_rfl
theorem tsz14 : (Try.prog.types[14]'(of_decide_eq_true (by kernel_rfl))).size = 2 := by kernel_rfl
theorem size14 : sizeB Try.prog 14 = some 2 := by kernel_rfl
theorem intK14 : intKindB Try.prog 14 = none := by kernel_rfl
theorem elem14 : elemB Try.prog 14 = none := by kernel_rfl
theorem zero14 : zeroC Try.prog 14 = some [.string ByteArray.empty, .int .u64 0] := by kernel_rfl
theorem field14_0 : fieldB Try.prog 14 0 = some (0, 9) := by kernel_rfl
theorem field14_1 : fieldB Try.prog 14 1 = some (1, 12) := by kernel_rfl
theorem places14 : placesOf Try.prog 14 = some (fun i => (#[(0, 1), (1, 1)] : Array (Nat × Nat))[i]?) := by kernel_rfl
theorem isAgg18 : isAggB Try.prog 18 = some true := by kernel_rfl
theorem tsz18 : (Try.prog.types[18]'(of_decide_eq_true (by kernel_rfl))).size = 1 := by kernel_rfl
theorem size18 : sizeB Try.prog 18 = some 1 := by kernel_rfl
theorem intK18 : intKindB Try.prog 18 = none := by kernel_rfl
theorem elem18 : elemB Try.prog 18 = none := by kernel_rfl
theorem zero18 : zeroC Try.prog 18 = some [.pointer none] := by kernel_rfl
theorem field18_0 : fieldB Try.prog 18 0 = some (0, 17) := by kernel_rfl
theorem isAgg19 : isAggB Try.prog 19 = some true := by kernel_rfl
theorem tsz19 : (Try.prog.types[19]'(of_decide_eq_true (by kernel_rfl))).size = 1 := by kernel_rfl
theorem size19 : sizeB Try.prog 19 = some 1 := by kernel_rfl
theorem intK19 : intKindB Try.prog 19 = none := by kernel_rfl
theorem elem19 : elemB Try.prog 19 = none := by kernel_rfl
theorem zero19 : zeroC Try.prog 19 = some [.pointer none] := by kernel_rfl
theorem field19_0 : fieldB Try.prog 19 0 = some (0, 17) := by kernel_rfl
theorem isAgg21 : isAggB Try.prog 21 = some false := by kernel_rfl
theorem tsz21 : (Try.prog.types[21]'(of_decide_eq_true (by kernel_rfl))).size = 1 := by kernel_rfl
theorem size21 : sizeB Try.prog 21 = some 1 := by kernel_rfl
theorem intK21 : intKindB Try.prog 21 = some .i32 := by kernel_rfl
theorem elem21 : elemB Try.prog 21 = none := by kernel_rfl
theorem zero21 : zeroC Try.prog 21 = some [.int .i32 0] := by kernel_rfl
theorem isAgg22 : isAggB Try.prog 22 = some false := by kernel_rfl
theorem tsz22 : (Try.prog.types[22]'(of_decide_eq_true (by kernel_rfl))).size = 1 := by kernel_rfl
theorem size22 : sizeB Try.prog 22 = some 1 := by kernel_rfl
theorem intK22 : intKindB Try.prog 22 = some .u64 := by kernel_rfl
theorem elem22 : elemB Try.prog 22 = none := by kernel_rfl
theorem zero22 : zeroC Try.prog 22 = some [.int .u64 0] := by kernel_rfl
theorem isAgg23 : isAggB Try.prog 23 = some false := by kernel_rfl
theorem tsz23 : (Try.prog.types[23]'(of_decide_eq_true (by kernel_rfl))).size = 1 := by kernel_rfl
theorem size23 : sizeB Try.prog 23 = some 1 := by kernel_rfl
theorem intK23 : intKindB Try.prog 23 = none := by kernel_rfl
theorem elem23 : elemB Try.prog 23 = some 22 := by kernel_rfl
theorem zero23 : zeroC Try.prog 23 = some [.slice none 0 0] := by kernel_rfl
theorem elty23 : eltyB Try.prog 23 = some (22, 1, 8, [.int .u64 0]) := by kernel_rfl
theorem isAgg24 : isAggB Try.prog 24 = some false := by kernel_rfl
theorem tsz24 : (Try.prog.types[24]'(of_decide_eq_true (by kernel_rfl))).size = 1 := by kernel_rfl
theorem size24 : sizeB Try.prog 24 = some 1 := by kernel_rfl
theorem intK24 : intKindB Try.prog 24 = none := by kernel_rfl
theorem elem24 : elemB Try.prog 24 = some 43 := by kernel_rfl
theorem zero24 : zeroC Try.prog 24 = some [.slice none 0 0] := by kernel_rfl
theorem elty24 : eltyB Try.prog 24 = some (43, 1, 24, [.slice none 0 0]) := by kernel_rfl
theorem isAgg25 : isAggB Try.prog 25 = some true := by kernel_rfl
theorem tsz25 : (Try.prog.types[25]'(of_decide_eq_true (by kernel_rfl))).size = 2 := by kernel_rfl
theorem size25 : sizeB Try.prog 25 = some 2 := by kernel_rfl
theorem intK25 : intKindB Try.prog 25 = none := by kernel_rfl
theorem elem25 : elemB Try.prog 25 = none := by kernel_rfl
theorem zero25 : zeroC Try.prog 25 = some [.slice none 0 0, .slice none 0 0] := by kernel_rfl
theorem field25_0 : fieldB Try.prog 25 0 = some (0, 23) := by kernel_rfl
theorem field25_1 : fieldB Try.prog 25 1 = some (1, 24) := by kernel_rfl
theorem places25 : placesOf Try.prog 25 = some (fun i => (#[(0, 1), (1, 1)] : Array (Nat × Nat))[i]?) := by kernel_rfl
theorem isAgg26 : isAggB Try.prog 26 = some true := by kernel_rfl
theorem tsz26 : (Try.prog.types[26]'(of_decide_eq_true (by kernel_rfl))).size = 2 := by kernel_rfl
theorem size26 : sizeB Try.prog 26 = some 2 := by kernel_rfl
theorem intK26 : intKindB Try.prog 26 = none := by kernel_rfl
theorem elem26 : elemB Try.prog 26 = none := by kernel_rfl
theorem zero26 : zeroC Try.prog 26 = some [.slice none 0 0, .slice none 0 0] := by kernel_rfl
theorem field26_0 : fieldB Try.prog 26 0 = some (0, 23) := by kernel_rfl
theorem field26_1 : fieldB Try.prog 26 1 = some (1, 24) := by kernel_rfl
theorem places26 : placesOf Try.prog 26 = some (fun i => (#[(0, 1), (1, 1)] : Array (Nat × Nat))[i]?) := by kernel_rfl
theorem isAgg27 : isAggB Try.prog 27 = some false := by kernel_rfl
theorem tsz27 : (Try.prog.types[27]'(of_decide_eq_true (by kernel_rfl))).size = 1 := by kernel_rfl
theorem size27 : sizeB Try.prog 27 = some 1 := by kernel_rfl
theorem intK27 : intKindB Try.prog 27 = none := by kernel_rfl
theorem elem27 : elemB Try.prog 27 = some 5 := by kernel_rfl
theorem zero27 : zeroC Try.prog 27 = some [.slice none 0 0] := by kernel_rfl
theorem elty27 : eltyB Try.prog 27 = some (5, 1, 1, [.int .u8 0]) := by kernel_rfl
theorem isAgg28 : isAggB Try.prog 28 = some true := by kernel_rfl
theorem tsz28 : (Try.prog.types[28]'(of_decide_eq_true (by kernel_rfl))).size = 5 := by kernel_rfl
theorem size28 : sizeB Try.prog 28 = some 5 := by kernel_rfl
theorem intK28 : intKindB Try.prog 28 = none := by kernel_rfl
theorem elem28 : elemB Try.prog 28 = none := by kernel_rfl
theorem zero28 : zeroC Try.prog 28 = some [.bool false, .int .i64 0, .int .i64 0, .int .u64 0, .slice none 0 0] := by kernel_rfl
theorem field28_0 : fieldB Try.prog 28 0 = some (0, 4) := by kernel_rfl
theorem field28_1 : fieldB Try.prog 28 1 = some (1, 3) := by kernel_rfl
theorem field28_2 : fieldB Try.prog 28 2 = some (2, 3) := by kernel_rfl
theorem field28_3 : fieldB Try.prog 28 3 = some (3, 22) := by kernel_rfl
theorem field28_4 : fieldB Try.prog 28 4 = some (4, 27) := by kernel_rfl
theorem places28 : placesOf Try.prog 28 = some (fun i => (#[(0, 1), (1, 1), (2, 1), (3, 1), (4, 1)] : Array (Nat × Nat))[i]?) := by kernel_rfl
theorem isAgg29 : isAggB Try.prog 29 = some true := by kernel_rfl
theorem tsz29 : (Try.prog.types[29]'(of_decide_eq_true (by kernel_rfl))).size = 5 := by kernel_rfl
theorem size29 : sizeB Try.prog 29 = some 5 := by kernel_rfl
theorem intK29 : intKindB Try.prog 29 = none := by kernel_rfl
theorem elem29 : elemB Try.prog 29 = none := by kernel_rfl
theorem zero29 : zeroC Try.prog 29 = some [.bool false, .int .i64 0, .int .i64 0, .int .u64 0, .slice none 0 0] := by kernel_rfl
theorem field29_0 : fieldB Try.prog 29 0 = some (0, 4) := by kernel_rfl
theorem field29_1 : fieldB Try.prog 29 1 = some (1, 3) := by kernel_rfl
theorem field29_2 : fieldB Try.prog 29 2 = some (2, 3) := by kernel_rfl
theorem field29_3 : fieldB Try.prog 29 3 = some (3, 22) := by kernel_rfl
theorem field29_4 : fieldB Try.prog 29 4 = some (4, 27) := by kernel_rfl
theorem places29 : placesOf Try.prog 29 = some (fun i => (#[(0, 1), (1, 1), (2, 1), (3, 1), (4, 1)] : Array (Nat × Nat))[i]?) := by kernel_rfl
theorem isAgg32 : isAggB Try.prog 32 = some false := by kernel_rfl
theorem tsz32 : (Try.prog.types[32]'(of_decide_eq_true (by kernel_rfl))).size = 1 := by kernel_rfl
theorem size32 : sizeB Try.prog 32 = some 1 := by kernel_rfl
theorem intK32 : intKindB Try.prog 32 = some .i64 := by kernel_rfl
theorem elem32 : elemB Try.prog 32 = none := by kernel_rfl
theorem zero32 : zeroC Try.prog 32 = some [.int .i64 0] := by kernel_rfl
theorem isAgg43 : isAggB Try.prog 43 = some false := by kernel_rfl
theorem tsz43 : (Try.prog.types[43]'(of_decide_eq_true (by kernel_rfl))).size = 1 := by kernel_rfl
theorem size43 : sizeB Try.prog 43 = some 1 := by kernel_rfl
theorem intK43 : intKindB Try.prog 43 = none := by kernel_rfl
theorem elem43 : elemB Try.prog 43 = some 29 := by kernel_rfl
theorem zero43 : zeroC Try.prog 43 = some [.slice none 0 0] := by kernel_rfl
theorem elty43 : eltyB Try.prog 43 = some (29, 5, 56, [.bool false, .int .i64 0, .int .i64 0, .int .u64 0, .slice none 0 0]) := by kernel_rfl
theorem isAgg62 : isAggB Try.prog 62 = some true := by kernel_rfl
theorem tsz62 : (Try.prog.types[62]'(of_decide_eq_true (by kernel_rfl))).size = 4 := by kernel_rfl
theorem size62 : sizeB Try.prog 62 = some 4 := by kernel_rfl
theorem intK62 : intKindB Try.prog 62 = none := by kernel_rfl
theorem elem62 : elemB Try.prog 62 = none := by kernel_rfl
theorem zero62 : zeroC Try.prog 62 = some [.pointer none, .pointer none, .pointer none, .string ByteArray.empty] := by kernel_rfl
theorem field62_0 : fieldB Try.prog 62 0 = some (0, 17) := by kernel_rfl
theorem field62_1 : fieldB Try.prog 62 1 = some (1, 17) := by kernel_rfl
theorem field62_2 : fieldB Try.prog 62 2 = some (2, 17) := by kernel_rfl
theorem field62_3 : fieldB Try.prog 62 3 = some (3, 9) := by kernel_rfl
theorem isAgg63 : isAggB Try.prog 63 = some true := by kernel_rfl
theorem tsz63 : (Try.prog.types[63]'(of_decide_eq_true (by kernel_rfl))).size = 4 := by kernel_rfl
theorem size63 : sizeB Try.prog 63 = some 4 := by kernel_rfl
theorem intK63 : intKindB Try.prog 63 = none := by kernel_rfl
theorem elem63 : elemB Try.prog 63 = none := by kernel_rfl
theorem zero63 : zeroC Try.prog 63 = some [.pointer none, .pointer none, .pointer none, .string ByteArray.empty] := by kernel_rfl
theorem field63_0 : fieldB Try.prog 63 0 = some (0, 17) := by kernel_rfl
theorem field63_1 : fieldB Try.prog 63 1 = some (1, 17) := by kernel_rfl
theorem field63_2 : fieldB Try.prog 63 2 = some (2, 17) := by kernel_rfl
theorem field63_3 : fieldB Try.prog 63 3 = some (3, 9) := by kernel_rfl
theorem isAgg64 : isAggB Try.prog 64 = some true := by kernel_rfl
theorem tsz64 : (Try.prog.types[64]'(of_decide_eq_true (by kernel_rfl))).size = 0 := by kernel_rfl
theorem size64 : sizeB Try.prog 64 = some 0 := by kernel_rfl
theorem intK64 : intKindB Try.prog 64 = none := by kernel_rfl
theorem elem64 : elemB Try.prog 64 = none := by kernel_rfl
theorem arr64 : arrB Try.prog 64 = some (0, 16) := by kernel_rfl
theorem zero64 : zeroC Try.prog 64 = some [] := by kernel_rfl
theorem isAgg65 : isAggB Try.prog 65 = some true := by kernel_rfl
theorem tsz65 : (Try.prog.types[65]'(of_decide_eq_true (by kernel_rfl))).size = 0 := by kernel_rfl
theorem size65 : sizeB Try.prog 65 = some 0 := by kernel_rfl
theorem intK65 : intKindB Try.prog 65 = none := by kernel_rfl
theorem elem65 : elemB Try.prog 65 = none := by kernel_rfl
theorem zero65 : zeroC Try.prog 65 = some [] := by kernel_rfl
theorem field65_0 : fieldB Try.prog 65 0 = some (0, 64) := by kernel_rfl
theorem places65 : placesOf Try.prog 65 = some (fun i => (#[(0, 0)] : Array (Nat × Nat))[i]?) := by kernel_rfl
theorem isAgg66 : isAggB Try.prog 66 = some true := by kernel_rfl
theorem tsz66 : (Try.prog.types[66]'(of_decide_eq_true (by kernel_rfl))).size = 0 := by kernel_rfl
theorem size66 : sizeB Try.prog 66 = some 0 := by kernel_rfl
theorem intK66 : intKindB Try.prog 66 = none := by kernel_rfl
theorem elem66 : elemB Try.prog 66 = none := by kernel_rfl
theorem zero66 : zeroC Try.prog 66 = some [] := by kernel_rfl
theorem field66_0 : fieldB Try.prog 66 0 = some (0, 64) := by kernel_rfl
theorem places66 : placesOf Try.prog 66 = some (fun i => (#[(0, 0)] : Array (Nat × Nat))[i]?) := by kernel_rfl
theorem isAgg68 : isAggB Try.prog 68 = some false := by kernel_rfl
theorem tsz68 : (Try.prog.types[68]'(of_decide_eq_true (by kernel_rfl))).size = 1 := by kernel_rfl
theorem size68 : sizeB Try.prog 68 = some 1 := by kernel_rfl
theorem intK68 : intKindB Try.prog 68 = some .u32 := by kernel_rfl
theorem elem68 : elemB Try.prog 68 = none := by kernel_rfl
theorem zero68 : zeroC Try.prog 68 = some [.int .u32 0] := by kernel_rfl
theorem isAgg69 : isAggB Try.prog 69 = some false := by kernel_rfl
theorem tsz69 : (Try.prog.types[69]'(of_decide_eq_true (by kernel_rfl))).size = 1 := by kernel_rfl
theorem size69 : sizeB Try.prog 69 = some 1 := by kernel_rfl
theorem intK69 : intKindB Try.prog 69 = some .u8 := by kernel_rfl
theorem elem69 : elemB Try.prog 69 = none := by kernel_rfl
theorem und69 : Try.prog.underlying 69 = some (.int .u8) := by kernel_rfl
theorem zero69 : zeroC Try.prog 69 = some [.int .u8 0] := by kernel_rfl
theorem isAgg70 : isAggB Try.prog 70 = some false := by kernel_rfl
theorem tsz70 : (Try.prog.types[70]'(of_decide_eq_true (by kernel_rfl))).size = 1 := by kernel_rfl
theorem size70 : sizeB Try.prog 70 = some 1 := by kernel_rfl
theorem intK70 : intKindB Try.prog 70 = some .u8 := by kernel_rfl
theorem elem70 : elemB Try.prog 70 = none := by kernel_rfl
theorem und70 : Try.prog.underlying 70 = some (.int .u8) := by kernel_rfl
theorem zero70 : zeroC Try.prog 70 = some [.int .u8 0] := by kernel_rfl
theorem isAgg73 : isAggB Try.prog 73 = some false := by kernel_rfl
theorem tsz73 : (Try.prog.types[73]'(of_decide_eq_true (by kernel_rfl))).size = 1 := by kernel_rfl
theorem size73 : sizeB Try.prog 73 = some 1 := by kernel_rfl
theorem intK73 : intKindB Try.prog 73 = some .i32 := by kernel_rfl
theorem elem73 : elemB Try.prog 73 = none := by kernel_rfl
theorem zero73 : zeroC Try.prog 73 = some [.int .i32 0] := by kernel_rfl
theorem isAgg74 : isAggB Try.prog 74 = some false := by kernel_rfl
theorem tsz74 : (Try.prog.types[74]'(of_decide_eq_true (by kernel_rfl))).size = 1 := by kernel_rfl
theorem size74 : sizeB Try.prog 74 = some 1 := by kernel_rfl
theorem intK74 : intKindB Try.prog 74 = some .i32 := by kernel_rfl
theorem elem74 : elemB Try.prog 74 = none := by kernel_rfl
theorem zero74 : zeroC Try.prog 74 = some [.int .i32 0] := by kernel_rfl
theorem isAgg75 : isAggB Try.prog 75 = some true := by kernel_rfl
theorem tsz75 : (Try.prog.types[75]'(of_decide_eq_true (by kernel_rfl))).size = 11 := by kernel_rfl
theorem size75 : sizeB Try.prog 75 = some 11 := by kernel_rfl
theorem intK75 : intKindB Try.prog 75 = none := by kernel_rfl
theorem elem75 : elemB Try.prog 75 = none := by kernel_rfl
theorem zero75 : zeroC Try.prog 75 = some [.int .u64 0, .int .u64 0, .int .u32 0, .int .u8 0, .int .u8 0, .int .u8 0, .int .u8 0, .nilFunc, .pointer none, .int .i32 0, .int .i32 0] := by kernel_rfl
theorem field75_0 : fieldB Try.prog 75 0 = some (0, 12) := by kernel_rfl
theorem field75_1 : fieldB Try.prog 75 1 = some (1, 12) := by kernel_rfl
theorem field75_2 : fieldB Try.prog 75 2 = some (2, 68) := by kernel_rfl
theorem field75_3 : fieldB Try.prog 75 3 = some (3, 69) := by kernel_rfl
theorem field75_4 : fieldB Try.prog 75 4 = some (4, 5) := by kernel_rfl
theorem field75_5 : fieldB Try.prog 75 5 = some (5, 5) := by kernel_rfl
theorem field75_6 : fieldB Try.prog 75 6 = some (6, 70) := by kernel_rfl
theorem field75_7 : fieldB Try.prog 75 7 = some (7, 71) := by kernel_rfl
theorem field75_8 : fieldB Try.prog 75 8 = some (8, 72) := by kernel_rfl
theorem field75_9 : fieldB Try.prog 75 9 = some (9, 73) := by kernel_rfl
theorem field75_10 : fieldB Try.prog 75 10 = some (10, 74) := by kernel_rfl
theorem isAgg76 : isAggB Try.prog 76 = some true := by kernel_rfl
theorem tsz76 : (Try.prog.types[76]'(of_decide_eq_true (by kernel_rfl))).size = 11 := by kernel_rfl
theorem size76 : sizeB Try.prog 76 = some 11 := by kernel_rfl
theorem intK76 : intKindB Try.prog 76 = none := by kernel_rfl
theorem elem76 : elemB Try.prog 76 = none := by kernel_rfl
theorem zero76 : zeroC Try.prog 76 = some [.int .u64 0, .int .u64 0, .int .u32 0, .int .u8 0, .int .u8 0, .int .u8 0, .int .u8 0, .nilFunc, .pointer none, .int .i32 0, .int .i32 0] := by kernel_rfl
theorem field76_0 : fieldB Try.prog 76 0 = some (0, 12) := by kernel_rfl
theorem field76_1 : fieldB Try.prog 76 1 = some (1, 12) := by kernel_rfl
theorem field76_2 : fieldB Try.prog 76 2 = some (2, 68) := by kernel_rfl
theorem field76_3 : fieldB Try.prog 76 3 = some (3, 69) := by kernel_rfl
theorem field76_4 : fieldB Try.prog 76 4 = some (4, 5) := by kernel_rfl
theorem field76_5 : fieldB Try.prog 76 5 = some (5, 5) := by kernel_rfl
theorem field76_6 : fieldB Try.prog 76 6 = some (6, 70) := by kernel_rfl
theorem field76_7 : fieldB Try.prog 76 7 = some (7, 71) := by kernel_rfl
theorem field76_8 : fieldB Try.prog 76 8 = some (8, 72) := by kernel_rfl
theorem field76_9 : fieldB Try.prog 76 9 = some (9, 73) := by kernel_rfl
theorem field76_10 : fieldB Try.prog 76 10 = some (10, 74) := by kernel_rfl
theorem fnOk3 : FnOk Try.prog 3 := ⟨_, _, Try.func3, rfl, rfl⟩
theorem fnOk4 : FnOk Try.prog 4 := ⟨_, _, Try.func4, rfl, rfl⟩
theorem fnOk5 : FnOk Try.prog 5 := ⟨_, _, Try.func5, rfl, rfl⟩
theorem fnOk6 : FnOk Try.prog 6 := ⟨_, _, Try.func6, rfl, rfl⟩
theorem fnOk7 : FnOk Try.prog 7 := ⟨_, _, Try.func7, rfl, rfl⟩
theorem fnOk8 : FnOk Try.prog 8 := ⟨_, _, Try.func8, rfl, rfl⟩
theorem fnOk9 : FnOk Try.prog 9 := ⟨_, _, Try.func9, rfl, rfl⟩
theorem fnOk10 : FnOk Try.prog 10 := ⟨_, _, Try.func10, rfl, rfl⟩
theorem fnOk11 : FnOk Try.prog 11 := ⟨_, _, Try.func11, rfl, rfl⟩
theorem fnOk12 : FnOk Try.prog 12 := ⟨_, _, Try.func12, rfl, rfl⟩
theorem fnOk13 : FnOk Try.prog 13 := ⟨_, _, Try.func13, rfl, rfl⟩
theorem fnOk14 : FnOk Try.prog 14 := ⟨_, _, Try.func14, rfl, rfl⟩
theorem fnOk15 : FnOk Try.prog 15 := ⟨_, _, Try.func15, rfl, rfl⟩
theorem fnOk16 : FnOk Try.prog 16 := ⟨_, _, Try.func16, rfl, rfl⟩
theorem fnOk17 : FnOk Try.prog 17 := ⟨_, _, Try.func17, rfl, rfl⟩
theorem fnOk18 : FnOk Try.prog 18 := ⟨_, _, Try.func18, rfl, rfl⟩
theorem fnOk19 : FnOk Try.prog 19 := ⟨_, _, Try.func19, rfl, rfl⟩
theorem fnOk20 : FnOk Try.prog 20 := ⟨_, _, Try.func20, rfl, rfl⟩
theorem fnOk21 : FnOk Try.prog 21 := ⟨_, _, Try.func21, rfl, rfl⟩
theorem fnOk22 : FnOk Try.prog 22 := ⟨_, _, Try.func22, rfl, rfl⟩
theorem fnOk23 : FnOk Try.prog 23 := ⟨_, _, Try.func23, rfl, rfl⟩
theorem fnOk24 : FnOk Try.prog 24 := ⟨_, _, Try.func24, rfl, rfl⟩
theorem fnOk25 : FnOk Try.prog 25 := ⟨_, _, Try.func25, rfl, rfl⟩
theorem fnOk26 : FnOk Try.prog 26 := ⟨_, _, Try.func26, rfl, rfl⟩
theorem fnOk27 : FnOk Try.prog 27 := ⟨_, _, Try.func27, rfl, rfl⟩
theorem fnOk28 : FnOk Try.prog 28 := ⟨_, _, Try.func28, rfl, rfl⟩
theorem fnOk29 : FnOk Try.prog 29 := ⟨_, _, Try.func29, rfl, rfl⟩
theorem fnOk30 : FnOk Try.prog 30 := ⟨_, _, Try.func30, rfl, rfl⟩
theorem fnOk31 : FnOk Try.prog 31 := ⟨_, _, Try.func31, rfl, rfl⟩
theorem fnOk32 : FnOk Try.prog 32 := ⟨_, _, Try.func32, rfl, rfl⟩
theorem fnOk33 : FnOk Try.prog 33 := ⟨_, _, Try.func33, rfl, rfl⟩
theorem fnOk34 : FnOk Try.prog 34 := ⟨_, _, Try.func34, rfl, rfl⟩
end Go.Proofs.Ytjmchiofkjkidaa
