import Derived.Test.YtgknomjgpkpjdaaTY
import Derived.Test.YtgknomjgpkpjdaaME
import Derived.Test.YtgknomjgpkpjdaaFwideCmp
import Derived.Test.YtgknomjgpkpjdaaFwidedouble
import Derived.Test.YtgknomjgpkpjdaaFwidetakeOff
namespace Go.Ab
open Go Go.Proofs
set_option linter.unusedVariables false
set_option linter.unusedSimpArgs false
set_option maxRecDepth 8000
set_option maxHeartbeats 4000000

noncomputable def B33 : Code := bodyOf Try.f33
theorem B33_eq : Try.f33.body = some B33 := by kernel_rfl
noncomputable def n33_0 := B33
noncomputable def n33_1 := codeAt B33 [0]
noncomputable def n33_2 := codeAt B33 [1]
noncomputable def n33_3 := codeAt B33 [1,0]
noncomputable def n33_4 := codeAt B33 [1,0,0]
noncomputable def n33_5 := codeAt B33 [1,0,0,0]
noncomputable def n33_6 := codeAt B33 [1,0,0,1]
noncomputable def n33_7 := codeAt B33 [1,0,0,1,0]
noncomputable def n33_8 := codeAt B33 [1,0,0,1,0,0]
noncomputable def n33_9 := codeAt B33 [1,0,0,1,0,1]
noncomputable def n33_10 := codeAt B33 [1,0,0,1,1]
noncomputable def n33_11 := codeAt B33 [1,0,1]
noncomputable def n33_12 := codeAt B33 [1,0,1,0]
noncomputable def n33_13 := codeAt B33 [1,0,1,1]
noncomputable def n33_14 := codeAt B33 [1,0,1,1,0]
noncomputable def n33_15 := codeAt B33 [1,0,1,1,1]
noncomputable def n33_16 := codeAt B33 [1,0,1,1,1,0]
noncomputable def n33_17 := codeAt B33 [1,0,1,1,1,0,0]
noncomputable def n33_18 := codeAt B33 [1,0,1,1,1,0,1]
noncomputable def n33_19 := codeAt B33 [1,0,1,1,1,0,1,0]
noncomputable def n33_20 := codeAt B33 [1,0,1,1,1,0,1,0,0]
noncomputable def n33_21 := codeAt B33 [1,0,1,1,1,0,1,0,0,0]
noncomputable def n33_22 := codeAt B33 [1,0,1,1,1,0,1,0,0,0,0]
noncomputable def n33_23 := codeAt B33 [1,0,1,1,1,0,1,0,0,0,1]
noncomputable def n33_24 := codeAt B33 [1,0,1,1,1,0,1,0,0,0,1,0]
noncomputable def n33_25 := codeAt B33 [1,0,1,1,1,0,1,0,0,0,1,1]
noncomputable def n33_26 := codeAt B33 [1,0,1,1,1,0,1,0,0,1]
noncomputable def n33_27 := codeAt B33 [1,0,1,1,1,0,1,0,0,1,0]
noncomputable def n33_28 := codeAt B33 [1,0,1,1,1,0,1,0,0,1,0,0]
noncomputable def n33_29 := codeAt B33 [1,0,1,1,1,0,1,0,0,1,0,0,0]
noncomputable def n33_30 := codeAt B33 [1,0,1,1,1,0,1,0,0,1,0,0,1]
noncomputable def n33_31 := codeAt B33 [1,0,1,1,1,0,1,0,0,1,0,0,1,0]
noncomputable def n33_32 := codeAt B33 [1,0,1,1,1,0,1,0,0,1,0,0,1,0,0]
noncomputable def n33_33 := codeAt B33 [1,0,1,1,1,0,1,0,0,1,0,0,1,0,0,0]
noncomputable def n33_34 := codeAt B33 [1,0,1,1,1,0,1,0,0,1,0,0,1,0,0,0,0]
noncomputable def n33_35 := codeAt B33 [1,0,1,1,1,0,1,0,0,1,0,0,1,0,0,0,1]
noncomputable def n33_36 := codeAt B33 [1,0,1,1,1,0,1,0,0,1,0,0,1,0,0,0,1,0]
noncomputable def n33_37 := codeAt B33 [1,0,1,1,1,0,1,0,0,1,0,0,1,0,0,0,1,1]
noncomputable def n33_38 := codeAt B33 [1,0,1,1,1,0,1,0,0,1,0,0,1,0,0,1]
noncomputable def n33_39 := codeAt B33 [1,0,1,1,1,0,1,0,0,1,0,0,1,0,0,1,0]
noncomputable def n33_40 := codeAt B33 [1,0,1,1,1,0,1,0,0,1,0,0,1,0,0,1,0,0]
noncomputable def n33_41 := codeAt B33 [1,0,1,1,1,0,1,0,0,1,0,0,1,0,0,1,0,0,0]
noncomputable def n33_42 := codeAt B33 [1,0,1,1,1,0,1,0,0,1,0,0,1,0,0,1,0,0,0,0]
noncomputable def n33_43 := codeAt B33 [1,0,1,1,1,0,1,0,0,1,0,0,1,0,0,1,0,0,0,1]
noncomputable def n33_44 := codeAt B33 [1,0,1,1,1,0,1,0,0,1,0,0,1,0,0,1,0,0,0,1,0]
noncomputable def n33_45 := codeAt B33 [1,0,1,1,1,0,1,0,0,1,0,0,1,0,0,1,0,0,0,1,1]
noncomputable def n33_46 := codeAt B33 [1,0,1,1,1,0,1,0,0,1,0,0,1,0,0,1,0,0,1]
noncomputable def n33_47 := codeAt B33 [1,0,1,1,1,0,1,0,0,1,0,0,1,0,0,1,0,0,1,0]
noncomputable def n33_48 := codeAt B33 [1,0,1,1,1,0,1,0,0,1,0,0,1,0,0,1,0,0,1,1]
noncomputable def n33_49 := codeAt B33 [1,0,1,1,1,0,1,0,0,1,0,0,1,0,0,1,0,0,1,1,0]
noncomputable def n33_50 := codeAt B33 [1,0,1,1,1,0,1,0,0,1,0,0,1,0,0,1,0,0,1,1,1]
noncomputable def n33_51 := codeAt B33 [1,0,1,1,1,0,1,0,0,1,0,0,1,0,0,1,0,0,1,1,1,0]
noncomputable def n33_52 := codeAt B33 [1,0,1,1,1,0,1,0,0,1,0,0,1,0,0,1,0,0,1,1,1,1]
noncomputable def n33_53 := codeAt B33 [1,0,1,1,1,0,1,0,0,1,0,0,1,0,0,1,0,0,1,1,1,1,0]
noncomputable def n33_54 := codeAt B33 [1,0,1,1,1,0,1,0,0,1,0,0,1,0,0,1,0,0,1,1,1,1,1]
noncomputable def n33_55 := codeAt B33 [1,0,1,1,1,0,1,0,0,1,0,0,1,0,0,1,0,0,1,1,1,1,1,0]
noncomputable def n33_56 := codeAt B33 [1,0,1,1,1,0,1,0,0,1,0,0,1,0,0,1,0,0,1,1,1,1,1,1]
noncomputable def n33_57 := codeAt B33 [1,0,1,1,1,0,1,0,0,1,0,0,1,0,0,1,1]
noncomputable def n33_58 := codeAt B33 [1,0,1,1,1,0,1,0,0,1,1]
noncomputable def n33_59 := codeAt B33 [1,0,1,1,1,1]
noncomputable def n33_60 := codeAt B33 [1,0,1,1,1,1,0]
noncomputable def n33_61 := codeAt B33 [1,0,1,1,1,1,1]
theorem e33_0 : n33_0 = .seq n33_1 n33_2 := rfl
noncomputable def r33_1 := opsAt n33_1
theorem e33_1 : n33_1 = .region 0 (r33_1).toArray false := rfl
theorem e33_2 : n33_2 = .scope n33_3 := rfl
theorem e33_3 : n33_3 = .seq n33_4 n33_11 := rfl
theorem e33_4 : n33_4 = .seq n33_5 n33_6 := rfl
noncomputable def r33_5 := opsAt n33_5
theorem e33_5 : n33_5 = .region 1 (r33_5).toArray false := rfl
theorem e33_6 : n33_6 = .cond (.tmp 16) n33_7 n33_10 := rfl
theorem e33_7 : n33_7 = .seq n33_8 n33_9 := rfl
noncomputable def r33_8 := opsAt n33_8
theorem e33_8 : n33_8 = .region 2 (r33_8).toArray false := rfl
theorem e33_9 : n33_9 = .ret := rfl
theorem e33_10 : n33_10 = .skip := rfl
theorem e33_11 : n33_11 = .seq n33_12 n33_13 := rfl
noncomputable def r33_12 := opsAt n33_12
theorem e33_12 : n33_12 = .region 3 (r33_12).toArray false := rfl
theorem e33_13 : n33_13 = .seq n33_14 n33_15 := rfl
theorem e33_14 : n33_14 = .label 0 := rfl
theorem e33_15 : n33_15 = .seq n33_16 n33_59 := rfl
theorem e33_16 : n33_16 = .seq n33_17 n33_18 := rfl
noncomputable def r33_17 := opsAt n33_17
theorem e33_17 : n33_17 = .region 4 (r33_17).toArray false := rfl
theorem e33_18 : n33_18 = .block 0 n33_19 := rfl
theorem e33_19 : n33_19 = .loop n33_20 := rfl
theorem e33_20 : n33_20 = .seq n33_21 n33_26 := rfl
theorem e33_21 : n33_21 = .seq n33_22 n33_23 := rfl
noncomputable def r33_22 := opsAt n33_22
theorem e33_22 : n33_22 = .region 5 (r33_22).toArray false := rfl
theorem e33_23 : n33_23 = .cond (.tmp 21) n33_24 n33_25 := rfl
theorem e33_24 : n33_24 = .skip := rfl
theorem e33_25 : n33_25 = .exit 0 := rfl
theorem e33_26 : n33_26 = .seq n33_27 n33_58 := rfl
theorem e33_27 : n33_27 = .block 1 n33_28 := rfl
theorem e33_28 : n33_28 = .seq n33_29 n33_30 := rfl
noncomputable def r33_29 := opsAt n33_29
theorem e33_29 : n33_29 = .region 7 (r33_29).toArray false := rfl
theorem e33_30 : n33_30 = .block 2 n33_31 := rfl
theorem e33_31 : n33_31 = .loop n33_32 := rfl
theorem e33_32 : n33_32 = .seq n33_33 n33_38 := rfl
theorem e33_33 : n33_33 = .seq n33_34 n33_35 := rfl
noncomputable def r33_34 := opsAt n33_34
theorem e33_34 : n33_34 = .region 8 (r33_34).toArray false := rfl
theorem e33_35 : n33_35 = .cond (.tmp 25) n33_36 n33_37 := rfl
theorem e33_36 : n33_36 = .skip := rfl
theorem e33_37 : n33_37 = .exit 2 := rfl
theorem e33_38 : n33_38 = .seq n33_39 n33_57 := rfl
theorem e33_39 : n33_39 = .block 3 n33_40 := rfl
theorem e33_40 : n33_40 = .seq n33_41 n33_46 := rfl
theorem e33_41 : n33_41 = .seq n33_42 n33_43 := rfl
noncomputable def r33_42 := opsAt n33_42
theorem e33_42 : n33_42 = .region 10 (r33_42).toArray false := rfl
theorem g33_42_3 : (r33_42[3]?).bind (·.dst) = some 31 := by decide +kernel
theorem e33_43 : n33_43 = .cond (.tmp 35) n33_44 n33_45 := rfl
theorem e33_44 : n33_44 = .exit 0 := rfl
theorem e33_45 : n33_45 = .skip := rfl
theorem e33_46 : n33_46 = .seq n33_47 n33_48 := rfl
noncomputable def r33_47 := opsAt n33_47
theorem e33_47 : n33_47 = .region 11 (r33_47).toArray false := rfl
theorem e33_48 : n33_48 = .seq n33_49 n33_50 := rfl
noncomputable def r33_49 := opsAt n33_49
theorem e33_49 : n33_49 = .region 12 (r33_49).toArray true := rfl
theorem a33_49 : anyOk r33_49 = true := by decide +kernel
theorem e33_50 : n33_50 = .seq n33_51 n33_52 := rfl
noncomputable def r33_51 := opsAt n33_51
theorem e33_51 : n33_51 = .region 13 (r33_51).toArray false := rfl
theorem e33_52 : n33_52 = .seq n33_53 n33_54 := rfl
noncomputable def r33_53 := opsAt n33_53
theorem e33_53 : n33_53 = .region 14 (r33_53).toArray false := rfl
theorem e33_54 : n33_54 = .cond (.tmp 53) n33_55 n33_56 := rfl
noncomputable def r33_55 := opsAt n33_55
theorem e33_55 : n33_55 = .region 15 (r33_55).toArray true := rfl
theorem a33_55 : anyOk r33_55 = true := by decide +kernel
theorem e33_56 : n33_56 = .skip := rfl
noncomputable def r33_57 := opsAt n33_57
theorem e33_57 : n33_57 = .region 9 (r33_57).toArray false := rfl
noncomputable def r33_58 := opsAt n33_58
theorem e33_58 : n33_58 = .region 6 (r33_58).toArray false := rfl
theorem e33_59 : n33_59 = .seq n33_60 n33_61 := rfl
noncomputable def r33_60 := opsAt n33_60
theorem e33_60 : n33_60 = .region 16 (r33_60).toArray true := rfl
theorem a33_60 : anyOk r33_60 = true := by decide +kernel
theorem e33_61 : n33_61 = .ret := rfl
end Go.Ab
