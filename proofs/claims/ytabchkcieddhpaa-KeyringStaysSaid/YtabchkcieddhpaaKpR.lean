/- Pieces of the walk of KeyringStays: region 12 (what a Use told is held to what was told), the innermost loop (the versions held to those of before). Written by tools/mkstays.py. -/
import Derived.Test.YtabchkcieddhpaaKrM
import Derived.Test.YtabchkcieddhpaaKrP
import Derived.Test.YtabchkcieddhpaaKrQ
namespace Go.Proofs.Ytabchkcieddhpaa.Oct
open Go.ChangeShapes Go.WideShapes Go.ChangeAt Go.RowKit
set_option linter.unusedVariables false

def firstLoop : Code → Option Code
  | .loop c => some c
  | .seq a b => match firstLoop a with
    | some c => some c
    | none => firstLoop b
  | .block _ c => firstLoop c
  | .scope c => firstLoop c
  | .cond _ a b => match firstLoop a with
    | some c => some c
    | none => firstLoop b
  | _ => none
def findReg (n : Nat) : Code → Option Code
  | .region i l d => if i = n then some (.region i l d) else none
  | .seq a b => match findReg n a with
    | some c => some c
    | none => findReg n b
  | .loop c => findReg n c
  | .block _ c => findReg n c
  | .scope c => findReg n c
  | .cond _ a b => match findReg n a with
    | some c => some c
    | none => findReg n b
  | _ => none
noncomputable def reg12 : Code := ((Try.f5.body.bind (findReg 12)).getD .skip)
noncomputable def loopO : Code := ((Try.f5.body.bind firstLoop).getD .skip)
noncomputable def loopA : Code := ((firstLoop loopO).getD .skip)
noncomputable def loopB : Code := ((firstLoop loopA).getD .skip)

set_option maxRecDepth 1000000 in
set_option maxHeartbeats 8000000 in
theorem r12_yes {kk0 kk1 kk2 kk3 kk4 kk6 kk12 kk13 kk14 kk15 kk16 kk17 kk18 kk19 kk20 kk21 kk22 kk23 kk24 kk25 kk26 kk27 kk28 kk29 kk30 kk31 kk32 kk33 kk34 kk35 kk36 kk37 kk38 kk39 kk40 kk41 kk42 kk43 kk44 kk45 kk46 kk47 kk48 kk49 kk50 kk51 kk52 kk53 kk54 kk55 kk56 kk57 kk58 kk59 kk60 kk61 kk62 kk63 kk64 kk65 kk66 kk67 kk68 kk69 kk70 kk71 kk72 kk73 kk74 kk75 kk76 kk77 kk78 kk79 kk80 kk81 kk82 kk83 kk84 kk85 kk86 kk87 kk88 kk89 kk90 kk91 kk92 kk93 kk94 kk95 kk96 kk97 kk98 kk99 kk100 kk101 kk102 kk103 kk104 kk105 kk106 kk107 kk108 kk109 kk110 kk111 kk112 kk113 kk114 kk115 kk116 kk117 kk118 kk119 kk120 kk121 kk122 kk123 kk124 kk125 kk126 kk127 kk128 kk129 kk130 kk131 kk132 kk133 kk134 kk135 kk136 kk137 kk138 kk139 kk140 kk141 kk142 kk143 kk144 kk145 kk146 kk147 kk148 kk149 kk150 kk151 kk152 kk153 kk154 kk155 kk156 kk157 kk158 kk159 kk160 kk161 kk162 kk163 kk164 kk165 kk166 kk167 kk168 kk169 kk170 kk171 kk172 kk173 kk174 kk175 kk176 kk177 kk178 kk179 kk180 kk181 kk182 kk183 kk184 kk185 kk186 kk187 kk188 kk189 kk190 kk191 kk192 kk193 kk194 kk195 kk196 kk197 kk198 kk199 kk200 kk201 kk202 kk203 kk204 kk205 kk206 kk207 kk208 kk209 kk210 kk211 kk212 kk213 kk214 kk215 kk216 kk217 kk218 kk219 kk220 kk221 kk222 kk223 kk224 kk225 kk226 kk227 kk228 kk229 kk230 kk231 kk232 kk233 kk234 kk235 kk236 kk237 kk238 kk239 kk240 kk241 kk242 kk243 kk244 kk245 kk246 kk247 kk248 kk249 kk250 kk251 kk252 : Value} {g n cs Y Z a b g2 c2 : Nat} {u : Int} {m : Bf} {w : World} {Q : Exit → Act → World → Prop} (ha : a < n) (ha8 : a < 8) (hb4 : b < 4) (hu : u < 16)
    (q1 : ∀ z : After w, z.val.cell? ⟨Y, 1, none⟩ = some (.int .i64 ((a : Int) + 1))) (q2 : ∀ z : After w, z.val.cell? ⟨g, a * 2 + 1, none⟩ = some (.slice (some ⟨g2, 0, none⟩) (b + 1) c2))
    (q3 : ∀ z : After w, z.val.cell? ⟨g2, b * 34 + 32, none⟩ = some (.int .i64 u)) (q4 : ∀ z : After w, ldR Try.prog 32 32 z.val g2 (b * 34) (row z.val g2) = .ok (.agg (ba 32 m)) z.val)
    (q5 : ∀ z : After w, row z.val Z = some (ba 32 m))
    (hQ : ∀ (d53 d54 d55 d56 d57 d58 d59 d60 d61 d62 d63 d64 d65 d66 d67 d68 d69 d70 d71 d72 d73 d74 d75 d76 d77 d78 d79 d80 d81 d82 d83 d84 d85 d86 d87 d88 d89 d90 d91 d92 d93 d94 d95 d96 d97 d98 d99 d100 d101 d102 d103 d104 d105 d106 d107 d108 d109 d110 d111 d112 d113 : Value) (z : After w), Q .normal ⟨(List.toArray (kk0 :: kk1 :: kk2 :: kk3 :: kk4 :: (.slice (some ⟨g, 0, none⟩) n cs) :: kk6 :: (.pointer (some ⟨Y, 0, none⟩)) :: (.int .i64 ((b : Int) + 1)) :: (.int .i64 u) :: (.pointer (some ⟨Z, 0, none⟩)) :: (.int .i64 0) :: kk12 :: kk13 :: kk14 :: kk15 :: kk16 :: kk17 :: kk18 :: kk19 :: kk20 :: kk21 :: kk22 :: kk23 :: kk24 :: kk25 :: kk26 :: kk27 :: kk28 :: kk29 :: kk30 :: kk31 :: kk32 :: kk33 :: kk34 :: kk35 :: kk36 :: kk37 :: kk38 :: kk39 :: kk40 :: kk41 :: kk42 :: kk43 :: kk44 :: kk45 :: kk46 :: kk47 :: kk48 :: kk49 :: kk50 :: kk51 :: kk52 :: d53 :: d54 :: d55 :: d56 :: d57 :: d58 :: d59 :: d60 :: d61 :: d62 :: d63 :: d64 :: d65 :: d66 :: d67 :: d68 :: d69 :: d70 :: d71 :: d72 :: d73 :: d74 :: d75 :: d76 :: d77 :: d78 :: d79 :: d80 :: d81 :: d82 :: d83 :: d84 :: d85 :: d86 :: d87 :: d88 :: d89 :: d90 :: d91 :: d92 :: d93 :: d94 :: d95 :: d96 :: d97 :: d98 :: d99 :: d100 :: d101 :: d102 :: d103 :: d104 :: d105 :: d106 :: d107 :: d108 :: d109 :: d110 :: d111 :: d112 :: d113 :: (.bool false) :: kk115 :: kk116 :: kk117 :: kk118 :: kk119 :: kk120 :: kk121 :: kk122 :: kk123 :: kk124 :: kk125 :: kk126 :: kk127 :: kk128 :: kk129 :: kk130 :: kk131 :: kk132 :: kk133 :: kk134 :: kk135 :: kk136 :: kk137 :: kk138 :: kk139 :: kk140 :: kk141 :: kk142 :: kk143 :: kk144 :: kk145 :: kk146 :: kk147 :: kk148 :: kk149 :: kk150 :: kk151 :: kk152 :: kk153 :: kk154 :: kk155 :: kk156 :: kk157 :: kk158 :: kk159 :: kk160 :: kk161 :: kk162 :: kk163 :: kk164 :: kk165 :: kk166 :: kk167 :: kk168 :: kk169 :: kk170 :: kk171 :: kk172 :: kk173 :: kk174 :: kk175 :: kk176 :: kk177 :: kk178 :: kk179 :: kk180 :: kk181 :: kk182 :: kk183 :: kk184 :: kk185 :: kk186 :: kk187 :: kk188 :: kk189 :: kk190 :: kk191 :: kk192 :: kk193 :: kk194 :: kk195 :: kk196 :: kk197 :: kk198 :: kk199 :: kk200 :: kk201 :: kk202 :: kk203 :: kk204 :: kk205 :: kk206 :: kk207 :: kk208 :: kk209 :: kk210 :: kk211 :: kk212 :: kk213 :: kk214 :: kk215 :: kk216 :: kk217 :: kk218 :: kk219 :: kk220 :: kk221 :: kk222 :: kk223 :: kk224 :: kk225 :: kk226 :: kk227 :: kk228 :: kk229 :: kk230 :: kk231 :: kk232 :: kk233 :: kk234 :: kk235 :: kk236 :: kk237 :: kk238 :: kk239 :: kk240 :: kk241 :: kk242 :: kk243 :: kk244 :: kk245 :: kk246 :: kk247 :: kk248 :: kk249 :: kk250 :: kk251 :: kk252 :: [])), []⟩ z.val) :
    Code.wp Try.prog reg12 Q ⟨(List.toArray (kk0 :: kk1 :: kk2 :: kk3 :: kk4 :: (.slice (some ⟨g, 0, none⟩) n cs) :: kk6 :: (.pointer (some ⟨Y, 0, none⟩)) :: (.int .i64 ((b : Int) + 1)) :: (.int .i64 u) :: (.pointer (some ⟨Z, 0, none⟩)) :: (.int .i64 0) :: kk12 :: kk13 :: kk14 :: kk15 :: kk16 :: kk17 :: kk18 :: kk19 :: kk20 :: kk21 :: kk22 :: kk23 :: kk24 :: kk25 :: kk26 :: kk27 :: kk28 :: kk29 :: kk30 :: kk31 :: kk32 :: kk33 :: kk34 :: kk35 :: kk36 :: kk37 :: kk38 :: kk39 :: kk40 :: kk41 :: kk42 :: kk43 :: kk44 :: kk45 :: kk46 :: kk47 :: kk48 :: kk49 :: kk50 :: kk51 :: kk52 :: kk53 :: kk54 :: kk55 :: kk56 :: kk57 :: kk58 :: kk59 :: kk60 :: kk61 :: kk62 :: kk63 :: kk64 :: kk65 :: kk66 :: kk67 :: kk68 :: kk69 :: kk70 :: kk71 :: kk72 :: kk73 :: kk74 :: kk75 :: kk76 :: kk77 :: kk78 :: kk79 :: kk80 :: kk81 :: kk82 :: kk83 :: kk84 :: kk85 :: kk86 :: kk87 :: kk88 :: kk89 :: kk90 :: kk91 :: kk92 :: kk93 :: kk94 :: kk95 :: kk96 :: kk97 :: kk98 :: kk99 :: kk100 :: kk101 :: kk102 :: kk103 :: kk104 :: kk105 :: kk106 :: kk107 :: kk108 :: kk109 :: kk110 :: kk111 :: kk112 :: kk113 :: kk114 :: kk115 :: kk116 :: kk117 :: kk118 :: kk119 :: kk120 :: kk121 :: kk122 :: kk123 :: kk124 :: kk125 :: kk126 :: kk127 :: kk128 :: kk129 :: kk130 :: kk131 :: kk132 :: kk133 :: kk134 :: kk135 :: kk136 :: kk137 :: kk138 :: kk139 :: kk140 :: kk141 :: kk142 :: kk143 :: kk144 :: kk145 :: kk146 :: kk147 :: kk148 :: kk149 :: kk150 :: kk151 :: kk152 :: kk153 :: kk154 :: kk155 :: kk156 :: kk157 :: kk158 :: kk159 :: kk160 :: kk161 :: kk162 :: kk163 :: kk164 :: kk165 :: kk166 :: kk167 :: kk168 :: kk169 :: kk170 :: kk171 :: kk172 :: kk173 :: kk174 :: kk175 :: kk176 :: kk177 :: kk178 :: kk179 :: kk180 :: kk181 :: kk182 :: kk183 :: kk184 :: kk185 :: kk186 :: kk187 :: kk188 :: kk189 :: kk190 :: kk191 :: kk192 :: kk193 :: kk194 :: kk195 :: kk196 :: kk197 :: kk198 :: kk199 :: kk200 :: kk201 :: kk202 :: kk203 :: kk204 :: kk205 :: kk206 :: kk207 :: kk208 :: kk209 :: kk210 :: kk211 :: kk212 :: kk213 :: kk214 :: kk215 :: kk216 :: kk217 :: kk218 :: kk219 :: kk220 :: kk221 :: kk222 :: kk223 :: kk224 :: kk225 :: kk226 :: kk227 :: kk228 :: kk229 :: kk230 :: kk231 :: kk232 :: kk233 :: kk234 :: kk235 :: kk236 :: kk237 :: kk238 :: kk239 :: kk240 :: kk241 :: kk242 :: kk243 :: kk244 :: kk245 :: kk246 :: kk247 :: kk248 :: kk249 :: kk250 :: kk251 :: kk252 :: [])), []⟩ w := by
  have hd1' : decide ((a : Int) + 1 < 1) = false := by simp; omega
  have hd2' : decide ((n : Int) < (a : Int) + 1) = false := by simp; omega
  have e1' : (a : Int) + 1 - 1 = (a : Int) := by omega
  have e2' : (b : Int) + 1 - 1 = (b : Int) := by omega
  have hn1 : ((b : Int) + 1 != (((b + 1 : Nat)) : Int)) = false := by simp
  have hn2 : (u != u) = false := by simp
  have hd3' : decide (16 ≤ u) = false := by simp; omega
  have hbl : b < b + 1 := Nat.lt_succ_self b
  have heq := eqB_reflK 32 m
  conv => arg 2; whnf
  refine seen_region (by kernel_rfl) (by kernel_rfl) ?_
  repeat (go_big_quiet_step (fail))
  refine wpQuiet_nil ?_
  rintro _ ⟨z, rfl⟩
  exact hQ _ _ _ _ _ _ _ _ _ _ _ _ _ _ _ _ _ _ _ _ _ _ _ _ _ _ _ _ _ _ _ _ _ _ _ _ _ _ _ _ _ _ _ _ _ _ _ _ _ _ _ _ _ _ _ _ _ _ _ _ _ z

set_option maxRecDepth 1000000 in
set_option maxHeartbeats 8000000 in
theorem r12_no {kk0 kk1 kk2 kk3 kk4 kk5 kk6 kk7 kk8 kk9 kk10 kk12 kk13 kk14 kk15 kk16 kk17 kk18 kk19 kk20 kk21 kk22 kk23 kk24 kk25 kk26 kk27 kk28 kk29 kk30 kk31 kk32 kk33 kk34 kk35 kk36 kk37 kk38 kk39 kk40 kk41 kk42 kk43 kk44 kk45 kk46 kk47 kk48 kk49 kk50 kk51 kk52 kk53 kk54 kk55 kk56 kk57 kk58 kk59 kk60 kk61 kk62 kk63 kk64 kk65 kk66 kk67 kk68 kk69 kk70 kk71 kk72 kk73 kk74 kk75 kk76 kk77 kk78 kk79 kk80 kk81 kk82 kk83 kk84 kk85 kk86 kk87 kk88 kk89 kk90 kk91 kk92 kk93 kk94 kk95 kk96 kk97 kk98 kk99 kk100 kk101 kk102 kk103 kk104 kk105 kk106 kk107 kk108 kk109 kk110 kk111 kk112 kk113 kk114 kk115 kk116 kk117 kk118 kk119 kk120 kk121 kk122 kk123 kk124 kk125 kk126 kk127 kk128 kk129 kk130 kk131 kk132 kk133 kk134 kk135 kk136 kk137 kk138 kk139 kk140 kk141 kk142 kk143 kk144 kk145 kk146 kk147 kk148 kk149 kk150 kk151 kk152 kk153 kk154 kk155 kk156 kk157 kk158 kk159 kk160 kk161 kk162 kk163 kk164 kk165 kk166 kk167 kk168 kk169 kk170 kk171 kk172 kk173 kk174 kk175 kk176 kk177 kk178 kk179 kk180 kk181 kk182 kk183 kk184 kk185 kk186 kk187 kk188 kk189 kk190 kk191 kk192 kk193 kk194 kk195 kk196 kk197 kk198 kk199 kk200 kk201 kk202 kk203 kk204 kk205 kk206 kk207 kk208 kk209 kk210 kk211 kk212 kk213 kk214 kk215 kk216 kk217 kk218 kk219 kk220 kk221 kk222 kk223 kk224 kk225 kk226 kk227 kk228 kk229 kk230 kk231 kk232 kk233 kk234 kk235 kk236 kk237 kk238 kk239 kk240 kk241 kk242 kk243 kk244 kk245 kk246 kk247 kk248 kk249 kk250 kk251 kk252 : Value} {E : Int} {w : World} {Q : Exit → Act → World → Prop} (d1 : (E == 0) = false) (d2 : decide (E = 0) = false)
    (hQ : ∀ (d53 d54 d55 d56 d57 d58 d59 d60 d61 d62 d63 d64 d65 d66 d67 d68 d69 d70 d71 d72 d73 d74 d75 d76 d77 d78 d79 d80 d81 d82 d83 d84 d85 d86 d87 d88 d89 d90 d91 d92 d93 d94 d95 d96 d97 d98 d99 d100 d101 d102 d103 d104 d105 d106 d107 d108 d109 d110 d111 d112 d113 : Value) (z : After w), Q .normal ⟨(List.toArray (kk0 :: kk1 :: kk2 :: kk3 :: kk4 :: kk5 :: kk6 :: kk7 :: kk8 :: kk9 :: kk10 :: (.int .i64 E) :: kk12 :: kk13 :: kk14 :: kk15 :: kk16 :: kk17 :: kk18 :: kk19 :: kk20 :: kk21 :: kk22 :: kk23 :: kk24 :: kk25 :: kk26 :: kk27 :: kk28 :: kk29 :: kk30 :: kk31 :: kk32 :: kk33 :: kk34 :: kk35 :: kk36 :: kk37 :: kk38 :: kk39 :: kk40 :: kk41 :: kk42 :: kk43 :: kk44 :: kk45 :: kk46 :: kk47 :: kk48 :: kk49 :: kk50 :: kk51 :: kk52 :: d53 :: d54 :: d55 :: d56 :: d57 :: d58 :: d59 :: d60 :: d61 :: d62 :: d63 :: d64 :: d65 :: d66 :: d67 :: d68 :: d69 :: d70 :: d71 :: d72 :: d73 :: d74 :: d75 :: d76 :: d77 :: d78 :: d79 :: d80 :: d81 :: d82 :: d83 :: d84 :: d85 :: d86 :: d87 :: d88 :: d89 :: d90 :: d91 :: d92 :: d93 :: d94 :: d95 :: d96 :: d97 :: d98 :: d99 :: d100 :: d101 :: d102 :: d103 :: d104 :: d105 :: d106 :: d107 :: d108 :: d109 :: d110 :: d111 :: d112 :: d113 :: (.bool false) :: kk115 :: kk116 :: kk117 :: kk118 :: kk119 :: kk120 :: kk121 :: kk122 :: kk123 :: kk124 :: kk125 :: kk126 :: kk127 :: kk128 :: kk129 :: kk130 :: kk131 :: kk132 :: kk133 :: kk134 :: kk135 :: kk136 :: kk137 :: kk138 :: kk139 :: kk140 :: kk141 :: kk142 :: kk143 :: kk144 :: kk145 :: kk146 :: kk147 :: kk148 :: kk149 :: kk150 :: kk151 :: kk152 :: kk153 :: kk154 :: kk155 :: kk156 :: kk157 :: kk158 :: kk159 :: kk160 :: kk161 :: kk162 :: kk163 :: kk164 :: kk165 :: kk166 :: kk167 :: kk168 :: kk169 :: kk170 :: kk171 :: kk172 :: kk173 :: kk174 :: kk175 :: kk176 :: kk177 :: kk178 :: kk179 :: kk180 :: kk181 :: kk182 :: kk183 :: kk184 :: kk185 :: kk186 :: kk187 :: kk188 :: kk189 :: kk190 :: kk191 :: kk192 :: kk193 :: kk194 :: kk195 :: kk196 :: kk197 :: kk198 :: kk199 :: kk200 :: kk201 :: kk202 :: kk203 :: kk204 :: kk205 :: kk206 :: kk207 :: kk208 :: kk209 :: kk210 :: kk211 :: kk212 :: kk213 :: kk214 :: kk215 :: kk216 :: kk217 :: kk218 :: kk219 :: kk220 :: kk221 :: kk222 :: kk223 :: kk224 :: kk225 :: kk226 :: kk227 :: kk228 :: kk229 :: kk230 :: kk231 :: kk232 :: kk233 :: kk234 :: kk235 :: kk236 :: kk237 :: kk238 :: kk239 :: kk240 :: kk241 :: kk242 :: kk243 :: kk244 :: kk245 :: kk246 :: kk247 :: kk248 :: kk249 :: kk250 :: kk251 :: kk252 :: [])), []⟩ z.val) :
    Code.wp Try.prog reg12 Q ⟨(List.toArray (kk0 :: kk1 :: kk2 :: kk3 :: kk4 :: kk5 :: kk6 :: kk7 :: kk8 :: kk9 :: kk10 :: (.int .i64 E) :: kk12 :: kk13 :: kk14 :: kk15 :: kk16 :: kk17 :: kk18 :: kk19 :: kk20 :: kk21 :: kk22 :: kk23 :: kk24 :: kk25 :: kk26 :: kk27 :: kk28 :: kk29 :: kk30 :: kk31 :: kk32 :: kk33 :: kk34 :: kk35 :: kk36 :: kk37 :: kk38 :: kk39 :: kk40 :: kk41 :: kk42 :: kk43 :: kk44 :: kk45 :: kk46 :: kk47 :: kk48 :: kk49 :: kk50 :: kk51 :: kk52 :: kk53 :: kk54 :: kk55 :: kk56 :: kk57 :: kk58 :: kk59 :: kk60 :: kk61 :: kk62 :: kk63 :: kk64 :: kk65 :: kk66 :: kk67 :: kk68 :: kk69 :: kk70 :: kk71 :: kk72 :: kk73 :: kk74 :: kk75 :: kk76 :: kk77 :: kk78 :: kk79 :: kk80 :: kk81 :: kk82 :: kk83 :: kk84 :: kk85 :: kk86 :: kk87 :: kk88 :: kk89 :: kk90 :: kk91 :: kk92 :: kk93 :: kk94 :: kk95 :: kk96 :: kk97 :: kk98 :: kk99 :: kk100 :: kk101 :: kk102 :: kk103 :: kk104 :: kk105 :: kk106 :: kk107 :: kk108 :: kk109 :: kk110 :: kk111 :: kk112 :: kk113 :: kk114 :: kk115 :: kk116 :: kk117 :: kk118 :: kk119 :: kk120 :: kk121 :: kk122 :: kk123 :: kk124 :: kk125 :: kk126 :: kk127 :: kk128 :: kk129 :: kk130 :: kk131 :: kk132 :: kk133 :: kk134 :: kk135 :: kk136 :: kk137 :: kk138 :: kk139 :: kk140 :: kk141 :: kk142 :: kk143 :: kk144 :: kk145 :: kk146 :: kk147 :: kk148 :: kk149 :: kk150 :: kk151 :: kk152 :: kk153 :: kk154 :: kk155 :: kk156 :: kk157 :: kk158 :: kk159 :: kk160 :: kk161 :: kk162 :: kk163 :: kk164 :: kk165 :: kk166 :: kk167 :: kk168 :: kk169 :: kk170 :: kk171 :: kk172 :: kk173 :: kk174 :: kk175 :: kk176 :: kk177 :: kk178 :: kk179 :: kk180 :: kk181 :: kk182 :: kk183 :: kk184 :: kk185 :: kk186 :: kk187 :: kk188 :: kk189 :: kk190 :: kk191 :: kk192 :: kk193 :: kk194 :: kk195 :: kk196 :: kk197 :: kk198 :: kk199 :: kk200 :: kk201 :: kk202 :: kk203 :: kk204 :: kk205 :: kk206 :: kk207 :: kk208 :: kk209 :: kk210 :: kk211 :: kk212 :: kk213 :: kk214 :: kk215 :: kk216 :: kk217 :: kk218 :: kk219 :: kk220 :: kk221 :: kk222 :: kk223 :: kk224 :: kk225 :: kk226 :: kk227 :: kk228 :: kk229 :: kk230 :: kk231 :: kk232 :: kk233 :: kk234 :: kk235 :: kk236 :: kk237 :: kk238 :: kk239 :: kk240 :: kk241 :: kk242 :: kk243 :: kk244 :: kk245 :: kk246 :: kk247 :: kk248 :: kk249 :: kk250 :: kk251 :: kk252 :: [])), []⟩ w := by
  conv => arg 2; whnf
  refine seen_region (by kernel_rfl) (by kernel_rfl) ?_
  repeat (go_big_quiet_step (fail))
  refine wpQuiet_nil ?_
  rintro _ ⟨z, rfl⟩
  exact hQ _ _ _ _ _ _ _ _ _ _ _ _ _ _ _ _ _ _ _ _ _ _ _ _ _ _ _ _ _ _ _ _ _ _ _ _ _ _ _ _ _ _ _ _ _ _ _ _ _ _ _ _ _ _ _ _ _ _ _ _ _ z

theorem veA_in (w : World) (X : Nat) (v : Ve) (h : row w X = some (veA v)) : w.cell? ⟨X, 32, none⟩ = some (.int .i64 v.u) ∧ w.cell? ⟨X, 33, none⟩ = some (.bool v.g) := ⟨by rw [cell_row h, veA_g32], by rw [cell_row h, veA_g33]⟩
set_option maxRecDepth 1000000 in
set_option maxHeartbeats 8000000 in
theorem loopB_any {kk0 kk1 kk2 kk3 kk4 kk6 kk7 kk8 kk9 kk10 kk11 kk15 kk16 kk17 kk18 kk19 kk20 kk21 kk22 kk23 kk24 kk25 kk26 kk27 kk28 kk29 kk30 kk31 kk32 kk33 kk34 kk35 kk36 kk37 kk38 kk39 kk40 kk41 kk42 kk43 kk44 kk45 kk46 kk47 kk48 kk49 kk50 kk51 kk52 kk53 kk54 kk55 kk56 kk57 kk58 kk59 kk60 kk61 kk62 kk63 kk64 kk65 kk66 kk67 kk68 kk69 kk70 kk71 kk72 kk73 kk74 kk75 kk76 kk77 kk78 kk79 kk80 kk81 kk82 kk83 kk84 kk85 kk86 kk87 kk88 kk89 kk90 kk91 kk92 kk93 kk94 kk95 kk96 kk97 kk98 kk99 kk100 kk101 kk102 kk103 kk104 kk105 kk106 kk107 kk108 kk109 kk110 kk111 kk112 kk113 kk114 kk115 kk116 kk117 kk118 kk119 kk120 kk121 kk122 kk123 kk124 kk125 kk126 kk127 kk128 kk129 kk130 kk131 kk132 kk133 kk134 kk135 kk136 kk137 kk138 kk139 kk140 kk141 kk142 kk143 kk144 kk145 kk146 kk147 kk148 kk149 kk150 kk151 kk152 kk153 kk154 kk155 kk156 kk157 kk158 kk159 kk160 kk161 kk162 kk163 kk164 kk165 kk166 kk167 kk168 kk169 kk170 kk171 kk172 kk173 kk174 kk175 kk176 kk177 kk178 kk179 kk180 kk181 kk182 kk183 kk184 kk185 kk186 kk187 kk188 kk189 kk190 kk191 kk192 kk193 kk194 kk195 kk196 kk197 kk198 kk199 kk200 kk201 kk202 kk203 kk204 kk205 kk206 kk207 kk208 kk209 kk210 kk211 kk212 kk213 kk214 kk215 kk216 kk217 kk218 kk219 kk220 kk221 kk222 kk223 kk224 kk225 kk226 kk227 kk228 kk229 kk230 kk231 kk232 kk233 kk234 kk235 kk236 kk237 kk238 kk239 kk240 kk241 kk242 kk243 kk244 kk245 kk246 kk247 kk248 kk249 kk250 kk251 kk252 : Value} {gs os n cs gn on n7 c8 a L N c2 c3 : Nat} {A2 A3 : Option Addr} {r r7 : Rg} {w8 w10 : World} {Q : Exit → Act → World → Prop} (ha : a < n) (ha7 : a < n7) (ha8 : a < 8) (hll : L ≤ N) (h47 : N ≤ 4)
    (HLn' : L = r.l.length) (HNn' : N = r7.l.length) (HRL' : rgLe r r7) (HOA' : okR r) (HO7' : okR r7)
    (S1' : w8.cell? ⟨gs, os + a * 2 + 1, none⟩ = some (.slice A2 L c2)) (N1' : w8.cell? ⟨gn, on + a * 2 + 1, none⟩ = some (.slice A3 N c3)) (GS' : gs < w8.heap.size) (GN' : gn < w8.heap.size)
    (H2' : 0 < r.l.length → ∃ g o, A2 = some ⟨g, o, none⟩ ∧ g < w8.heap.size ∧ ∀ i j (hi : i < r.l.length), j < 34 → w8.cell? ⟨g, o + i * 34 + j, none⟩ = (veC r.l[i])[j]?)
    (H3' : 0 < r7.l.length → ∃ g o, A3 = some ⟨g, o, none⟩ ∧ g < w8.heap.size ∧ ∀ i j (hi : i < r7.l.length), j < 34 → w8.cell? ⟨g, o + i * 34 + j, none⟩ = (veC r7.l[i])[j]?)
    (B10' : Below w8.heap.size w8 w10)
    (hQ : ∀ (d2 d15 d16 d187 d188 d189 d190 d191 d192 d193 d194 d195 d196 d197 d198 d199 d200 d201 d202 d203 d204 d205 d206 d207 d208 d209 d210 d211 d212 d213 d214 d215 d216 d217 d218 d219 d220 d221 d222 d223 d224 d225 d226 d227 d228 d229 d230 d231 d232 d233 d234 d235 d236 d237 d238 d239 d240 d241 d242 d243 d244 d245 d246 d247 d248 d249 d250 d251 : Value) (w' : World), Below w8.heap.size w8 w' → Q (.exit 5) ⟨(List.toArray (kk0 :: kk1 :: d2 :: kk3 :: kk4 :: (.slice (some ⟨gs, os, none⟩) n cs) :: kk6 :: kk7 :: kk8 :: kk9 :: kk10 :: kk11 :: (.slice (some ⟨gn, on, none⟩) n7 c8) :: (.int .i64 (a : Int)) :: (.int .i64 (L : Int)) :: d15 :: d16 :: kk17 :: kk18 :: kk19 :: kk20 :: kk21 :: kk22 :: kk23 :: kk24 :: kk25 :: kk26 :: kk27 :: kk28 :: kk29 :: kk30 :: kk31 :: kk32 :: kk33 :: kk34 :: kk35 :: kk36 :: kk37 :: kk38 :: kk39 :: kk40 :: kk41 :: kk42 :: kk43 :: kk44 :: kk45 :: kk46 :: kk47 :: kk48 :: kk49 :: kk50 :: kk51 :: kk52 :: kk53 :: kk54 :: kk55 :: kk56 :: kk57 :: kk58 :: kk59 :: kk60 :: kk61 :: kk62 :: kk63 :: kk64 :: kk65 :: kk66 :: kk67 :: kk68 :: kk69 :: kk70 :: kk71 :: kk72 :: kk73 :: kk74 :: kk75 :: kk76 :: kk77 :: kk78 :: kk79 :: kk80 :: kk81 :: kk82 :: kk83 :: kk84 :: kk85 :: kk86 :: kk87 :: kk88 :: kk89 :: kk90 :: kk91 :: kk92 :: kk93 :: kk94 :: kk95 :: kk96 :: kk97 :: kk98 :: kk99 :: kk100 :: kk101 :: kk102 :: kk103 :: kk104 :: kk105 :: kk106 :: kk107 :: kk108 :: kk109 :: kk110 :: kk111 :: kk112 :: kk113 :: kk114 :: kk115 :: kk116 :: kk117 :: kk118 :: kk119 :: kk120 :: kk121 :: kk122 :: kk123 :: kk124 :: kk125 :: kk126 :: kk127 :: kk128 :: kk129 :: kk130 :: kk131 :: kk132 :: kk133 :: kk134 :: kk135 :: kk136 :: kk137 :: kk138 :: kk139 :: kk140 :: kk141 :: kk142 :: kk143 :: kk144 :: kk145 :: kk146 :: kk147 :: kk148 :: kk149 :: kk150 :: kk151 :: kk152 :: kk153 :: kk154 :: kk155 :: kk156 :: kk157 :: kk158 :: kk159 :: kk160 :: kk161 :: kk162 :: kk163 :: kk164 :: kk165 :: kk166 :: kk167 :: kk168 :: kk169 :: kk170 :: kk171 :: kk172 :: kk173 :: kk174 :: kk175 :: kk176 :: kk177 :: kk178 :: kk179 :: kk180 :: kk181 :: kk182 :: kk183 :: kk184 :: kk185 :: kk186 :: d187 :: d188 :: d189 :: d190 :: d191 :: d192 :: d193 :: d194 :: d195 :: d196 :: d197 :: d198 :: d199 :: d200 :: d201 :: d202 :: d203 :: d204 :: d205 :: d206 :: d207 :: d208 :: d209 :: d210 :: d211 :: d212 :: d213 :: d214 :: d215 :: d216 :: d217 :: d218 :: d219 :: d220 :: d221 :: d222 :: d223 :: d224 :: d225 :: d226 :: d227 :: d228 :: d229 :: d230 :: d231 :: d232 :: d233 :: d234 :: d235 :: d236 :: d237 :: d238 :: d239 :: d240 :: d241 :: d242 :: d243 :: d244 :: d245 :: d246 :: d247 :: d248 :: d249 :: d250 :: d251 :: kk252 :: [])), []⟩ w') :
    Code.wp Try.prog (Code.loop loopB) Q ⟨(List.toArray (kk0 :: kk1 :: kk2 :: kk3 :: kk4 :: (.slice (some ⟨gs, os, none⟩) n cs) :: kk6 :: kk7 :: kk8 :: kk9 :: kk10 :: kk11 :: (.slice (some ⟨gn, on, none⟩) n7 c8) :: (.int .i64 (a : Int)) :: (.int .i64 0) :: kk15 :: kk16 :: kk17 :: kk18 :: kk19 :: kk20 :: kk21 :: kk22 :: kk23 :: kk24 :: kk25 :: kk26 :: kk27 :: kk28 :: kk29 :: kk30 :: kk31 :: kk32 :: kk33 :: kk34 :: kk35 :: kk36 :: kk37 :: kk38 :: kk39 :: kk40 :: kk41 :: kk42 :: kk43 :: kk44 :: kk45 :: kk46 :: kk47 :: kk48 :: kk49 :: kk50 :: kk51 :: kk52 :: kk53 :: kk54 :: kk55 :: kk56 :: kk57 :: kk58 :: kk59 :: kk60 :: kk61 :: kk62 :: kk63 :: kk64 :: kk65 :: kk66 :: kk67 :: kk68 :: kk69 :: kk70 :: kk71 :: kk72 :: kk73 :: kk74 :: kk75 :: kk76 :: kk77 :: kk78 :: kk79 :: kk80 :: kk81 :: kk82 :: kk83 :: kk84 :: kk85 :: kk86 :: kk87 :: kk88 :: kk89 :: kk90 :: kk91 :: kk92 :: kk93 :: kk94 :: kk95 :: kk96 :: kk97 :: kk98 :: kk99 :: kk100 :: kk101 :: kk102 :: kk103 :: kk104 :: kk105 :: kk106 :: kk107 :: kk108 :: kk109 :: kk110 :: kk111 :: kk112 :: kk113 :: kk114 :: kk115 :: kk116 :: kk117 :: kk118 :: kk119 :: kk120 :: kk121 :: kk122 :: kk123 :: kk124 :: kk125 :: kk126 :: kk127 :: kk128 :: kk129 :: kk130 :: kk131 :: kk132 :: kk133 :: kk134 :: kk135 :: kk136 :: kk137 :: kk138 :: kk139 :: kk140 :: kk141 :: kk142 :: kk143 :: kk144 :: kk145 :: kk146 :: kk147 :: kk148 :: kk149 :: kk150 :: kk151 :: kk152 :: kk153 :: kk154 :: kk155 :: kk156 :: kk157 :: kk158 :: kk159 :: kk160 :: kk161 :: kk162 :: kk163 :: kk164 :: kk165 :: kk166 :: kk167 :: kk168 :: kk169 :: kk170 :: kk171 :: kk172 :: kk173 :: kk174 :: kk175 :: kk176 :: kk177 :: kk178 :: kk179 :: kk180 :: kk181 :: kk182 :: kk183 :: kk184 :: kk185 :: kk186 :: kk187 :: kk188 :: kk189 :: kk190 :: kk191 :: kk192 :: kk193 :: kk194 :: kk195 :: kk196 :: kk197 :: kk198 :: kk199 :: kk200 :: kk201 :: kk202 :: kk203 :: kk204 :: kk205 :: kk206 :: kk207 :: kk208 :: kk209 :: kk210 :: kk211 :: kk212 :: kk213 :: kk214 :: kk215 :: kk216 :: kk217 :: kk218 :: kk219 :: kk220 :: kk221 :: kk222 :: kk223 :: kk224 :: kk225 :: kk226 :: kk227 :: kk228 :: kk229 :: kk230 :: kk231 :: kk232 :: kk233 :: kk234 :: kk235 :: kk236 :: kk237 :: kk238 :: kk239 :: kk240 :: kk241 :: kk242 :: kk243 :: kk244 :: kk245 :: kk246 :: kk247 :: kk248 :: kk249 :: kk250 :: kk251 :: kk252 :: [])), []⟩ w10 := by
  have HLn := Lib.hid HLn'
  have HNn := Lib.hid HNn'
  have HRL := Lib.hid HRL'
  have HOA := Lib.hid HOA'
  have HO7 := Lib.hid HO7'
  have S1 := Lib.hid S1'
  have N1 := Lib.hid N1'
  have GS := Lib.hid GS'
  have GN := Lib.hid GN'
  have H2 := Lib.hid H2'
  have H3 := Lib.hid H3'
  have B10 := Lib.hid B10'
  clear HLn' HNn' HRL' HOA' HO7' S1' N1' GS' GN' H2' H3' B10'
  conv => arg 2; arg 1; whnf

  go_loopw [14] (fun iv wr => ∃ b : Nat, b ≤ L ∧ iv = .int .i64 b ∧ Below w8.heap.size w8 wr) (fun iv _ => L - (intOf iv).toNat)
  case atStart => exact ⟨0, by omega, rfl, B10.out⟩
  case round =>
    obtain ⟨b, hb, rfl, hb11⟩ := hrel
    obtain ⟨w11, rfl⟩ : ∃ w9 : World, w9 = wr := ⟨_, rfl⟩
    have B11 := Lib.hid hb11
    have q1 : w11.cell? ⟨gs, os + a * 2 + 1, none⟩ = some (.slice A2 L c2) := (hb11.cell (p := ⟨gs, os + a * 2 + 1, none⟩) GS.out).trans S1.out
    clear hb11 B10
    by_cases hbl : b < L
    · have hbr : b < r.l.length := by have := HLn.out; omega
      have hbn : b < r7.l.length := by have := HNn.out; omega
      have hbN : b < N := by omega
      obtain ⟨g2, o2, rfl, hg2, hc2⟩ := H2.out (by omega)
      obtain ⟨g3, o3, rfl, hg3, hc3⟩ := H3.out (by omega)
      have hve := HRL.out.2 b hbr hbn
      have hox := (HOA.out.2 _ (List.getElem_mem hbr)).1
      have hoy := (HO7.out.2 _ (List.getElem_mem hbn)).1
      obtain ⟨x9, hx9⟩ : ∃ x, x = r.l[b]'hbr := ⟨_, rfl⟩
      obtain ⟨y9, hy9⟩ : ∃ x, x = r7.l[b]'hbn := ⟨_, rfl⟩
      rw [← hx9] at hve hox
      rw [← hy9] at hve hoy
      have hcx : ∀ i, i < 34 → w8.cell? ⟨g2, o2 + b * 34 + i, none⟩ = (veC x9)[i]? := fun i hi => by rw [hx9]; exact hc2 b i hbr hi
      have hcy : ∀ i, i < 34 → w8.cell? ⟨g3, o3 + b * 34 + i, none⟩ = (veC y9)[i]? := fun i hi => by rw [hy9]; exact hc3 b i hbn hi
      have q3 : ldR Try.prog 50 34 w11 g2 (o2 + b * 34) (row w11 g2) = .ok (.agg (veA x9)) w11 := ver_cells w11 g2 (o2 + b * 34) x9 fun i hi => (B11.out.cell (p := ⟨g2, o2 + b * 34 + i, none⟩) hg2).trans (hcx i hi)
      obtain ⟨w12, hw12⟩ : ∃ w', w' = w11.alloc (.cells (veA x9) 50) := ⟨_, rfl⟩
      have b12 : Below w11.heap.size w11 w12 := by rw [hw12]; exact (Below.refl _ _).alloc (Nat.le_refl _) _
      have r12 : row w12 w11.heap.size = some (veA x9) := by rw [hw12]; exact row_alloc_at _ _ _ _ rfl
      have B12 := Lib.hid (onto B11.out B11.out.size b12)
      have q4 : w12.cell? ⟨gn, on + a * 2 + 1, none⟩ = some (.slice (some ⟨g3, o3, none⟩) N c3) := (B12.out.cell (p := ⟨gn, on + a * 2 + 1, none⟩) GN.out).trans N1.out
      have q5 : ldR Try.prog 50 34 w12 g3 (o3 + b * 34) (row w12 g3) = .ok (.agg (veA y9)) w12 := ver_cells w12 g3 (o3 + b * 34) y9 fun i hi => (B12.out.cell (p := ⟨g3, o3 + b * 34 + i, none⟩) hg3).trans (hcy i hi)
      obtain ⟨w13, hw13⟩ : ∃ w', w' = w12.alloc (.cells (veA y9) 50) := ⟨_, rfl⟩
      have b13 : Below w12.heap.size w12 w13 := by rw [hw13]; exact (Below.refl _ _).alloc (Nat.le_refl _) _
      have B13 := Lib.hid (onto B12.out B12.out.size b13)
      have r13 : row w13 w12.heap.size = some (veA y9) := by rw [hw13]; exact row_alloc_at _ _ _ _ rfl
      have r13x : row w13 w11.heap.size = some (veA x9) := carry b13 r12
      have hsz12 : w12.heap.size = w11.heap.size + 1 := by rw [hw12]; simp
      have hb4 : b < 4 := by omega
      have hx1 := hox.1
      have hx2 := hox.2
      have du1 : decide (y9.u < x9.u) = false := by have := hve.2.2.1; simp; omega
      have du2 : decide (x9.u + 1 < y9.u) = false := by have := hve.2.2.2; simp; omega
      have du3 : decide ((16 : Int) < y9.u) = false := by have := hoy.2; simp; omega
      have hin := veA_in w13 w11.heap.size x9 r13x
      have hin2 := veA_in w13 w12.heap.size y9 r13
      obtain ⟨cx1, cx2⟩ := hin
      obtain ⟨cy1, cy2⟩ := hin2
      have hvv : (x9.g = false ∧ y9.g = false ∧ eqB 32 x9.m y9.m = true) ∨ (x9.g = false ∧ y9.g = true) ∨ (x9.g = true ∧ y9.g = true) := by
        cases hgx : x9.g <;> cases hgy : y9.g
        · exact .inl ⟨rfl, rfl, (eqB_iff 32 x9.m y9.m).2 (hve.2.1 hgy)⟩
        · exact .inr (.inl ⟨rfl, rfl⟩)
        · have := hve.1 hgx; rw [hgy] at this; cases this
        · exact .inr (.inr ⟨rfl, rfl⟩)
      have HW12 := Lib.hid hw12
      have HW13 := Lib.hid hw13
      rw [hsz12] at r13 cy1 cy2
      rw [hw13] at r13 r13x cx1 cx2 cy1 cy2
      rw [hw12] at r13 r13x cx1 cx2 cy1 cy2 q4 q5
      clear hcx hcy hve hox hoy hx9 hy9 hc2 hc3 hw12 hw13 b12 b13 r12 B12
      rcases hvv with ⟨g1, g2', g3'⟩ | ⟨g1, g2'⟩ | ⟨g1, g2'⟩
      all_goals
        rw [g1] at cx2
        rw [g2'] at cy2
        go_wp2_with fail
        rw [← HW12.out, ← HW13.out]
        go_roundw
        case rel => exact ⟨b + 1, by omega, by go_num, B13.out⟩
        case measure => simp [intOf]; omega
    · obtain rfl : b = L := by omega
      have hd9 : decide ((b : Int) < (b : Int)) = false := by simp
      go_wp2_with fail
      exact B11.out

set_option maxRecDepth 1000000 in
set_option maxHeartbeats 8000000 in
theorem loopA_any {kk0 kk1 kk2 kk3 kk4 kk6 kk7 kk8 kk9 kk10 kk11 kk14 kk15 kk16 kk17 kk18 kk19 kk20 kk21 kk22 kk23 kk24 kk25 kk26 kk27 kk28 kk29 kk30 kk31 kk32 kk33 kk34 kk35 kk36 kk37 kk38 kk39 kk40 kk41 kk42 kk43 kk44 kk45 kk46 kk47 kk48 kk49 kk50 kk51 kk52 kk53 kk54 kk55 kk56 kk57 kk58 kk59 kk60 kk61 kk62 kk63 kk64 kk65 kk66 kk67 kk68 kk69 kk70 kk71 kk72 kk73 kk74 kk75 kk76 kk77 kk78 kk79 kk80 kk81 kk82 kk83 kk84 kk85 kk86 kk87 kk88 kk89 kk90 kk91 kk92 kk93 kk94 kk95 kk96 kk97 kk98 kk99 kk100 kk101 kk102 kk103 kk104 kk105 kk106 kk107 kk108 kk109 kk110 kk111 kk112 kk113 kk114 kk115 kk116 kk117 kk118 kk119 kk120 kk121 kk122 kk123 kk124 kk125 kk126 kk127 kk128 kk129 kk130 kk131 kk132 kk133 kk134 kk135 kk136 kk137 kk138 kk139 kk140 kk141 kk142 kk143 kk144 kk145 kk146 kk147 kk148 kk149 kk150 kk151 kk152 kk153 kk154 kk155 kk156 kk157 kk158 kk159 kk160 kk161 kk162 kk163 kk164 kk165 kk166 kk167 kk168 kk169 kk170 kk171 kk172 kk173 kk174 kk175 kk176 kk177 kk178 kk179 kk180 kk181 kk182 kk183 kk184 kk185 kk186 kk187 kk188 kk189 kk190 kk191 kk192 kk193 kk194 kk195 kk196 kk197 kk198 kk199 kk200 kk201 kk202 kk203 kk204 kk205 kk206 kk207 kk208 kk209 kk210 kk211 kk212 kk213 kk214 kk215 kk216 kk217 kk218 kk219 kk220 kk221 kk222 kk223 kk224 kk225 kk226 kk227 kk228 kk229 kk230 kk231 kk232 kk233 kk234 kk235 kk236 kk237 kk238 kk239 kk240 kk241 kk242 kk243 kk244 kk245 kk246 kk247 kk248 kk249 kk250 kk251 kk252 : Value} {As A8 : Option Addr} {cs c8 : Nat} {K K7 : Ks} {w8 w9 : World} {Q : Exit → Act → World → Prop} (RS' : RRd w8 (.slice As K.length cs) K) (RN' : RRd w8 (.slice A8 K7.length c8) K7) (L7' : ksLe K K7) (HOKK' : okK K) (HOK7' : okK K7) (hl7 : K.length ≤ K7.length) (hok7 : K7.length ≤ 8)
    (hb9 : Below w8.heap.size w8 w9) (hQ : ∀ (d2 d14 d15 d16 d159 d160 d161 d162 d163 d164 d165 d166 d167 d168 d169 d170 d171 d172 d173 d174 d175 d176 d177 d178 d179 d180 d181 d182 d183 d184 d185 d186 d187 d188 d189 d190 d191 d192 d193 d194 d195 d196 d197 d198 d199 d200 d201 d202 d203 d204 d205 d206 d207 d208 d209 d210 d211 d212 d213 d214 d215 d216 d217 d218 d219 d220 d221 d222 d223 d224 d225 d226 d227 d228 d229 d230 d231 d232 d233 d234 d235 d236 d237 d238 d239 d240 d241 d242 d243 d244 d245 d246 d247 d248 d249 d250 d251 : Value) (w' : World), Below w8.heap.size w8 w' → Q (.exit 3) ⟨(List.toArray (kk0 :: kk1 :: d2 :: kk3 :: kk4 :: (.slice As K.length cs) :: kk6 :: kk7 :: kk8 :: kk9 :: kk10 :: kk11 :: (.slice A8 K7.length c8) :: (.int .i64 (K.length : Int)) :: d14 :: d15 :: d16 :: kk17 :: kk18 :: kk19 :: kk20 :: kk21 :: kk22 :: kk23 :: kk24 :: kk25 :: kk26 :: kk27 :: kk28 :: kk29 :: kk30 :: kk31 :: kk32 :: kk33 :: kk34 :: kk35 :: kk36 :: kk37 :: kk38 :: kk39 :: kk40 :: kk41 :: kk42 :: kk43 :: kk44 :: kk45 :: kk46 :: kk47 :: kk48 :: kk49 :: kk50 :: kk51 :: kk52 :: kk53 :: kk54 :: kk55 :: kk56 :: kk57 :: kk58 :: kk59 :: kk60 :: kk61 :: kk62 :: kk63 :: kk64 :: kk65 :: kk66 :: kk67 :: kk68 :: kk69 :: kk70 :: kk71 :: kk72 :: kk73 :: kk74 :: kk75 :: kk76 :: kk77 :: kk78 :: kk79 :: kk80 :: kk81 :: kk82 :: kk83 :: kk84 :: kk85 :: kk86 :: kk87 :: kk88 :: kk89 :: kk90 :: kk91 :: kk92 :: kk93 :: kk94 :: kk95 :: kk96 :: kk97 :: kk98 :: kk99 :: kk100 :: kk101 :: kk102 :: kk103 :: kk104 :: kk105 :: kk106 :: kk107 :: kk108 :: kk109 :: kk110 :: kk111 :: kk112 :: kk113 :: kk114 :: kk115 :: kk116 :: kk117 :: kk118 :: kk119 :: kk120 :: kk121 :: kk122 :: kk123 :: kk124 :: kk125 :: kk126 :: kk127 :: kk128 :: kk129 :: kk130 :: kk131 :: kk132 :: kk133 :: kk134 :: kk135 :: kk136 :: kk137 :: kk138 :: kk139 :: kk140 :: kk141 :: kk142 :: kk143 :: kk144 :: kk145 :: kk146 :: kk147 :: kk148 :: kk149 :: kk150 :: kk151 :: kk152 :: kk153 :: kk154 :: kk155 :: kk156 :: kk157 :: kk158 :: d159 :: d160 :: d161 :: d162 :: d163 :: d164 :: d165 :: d166 :: d167 :: d168 :: d169 :: d170 :: d171 :: d172 :: d173 :: d174 :: d175 :: d176 :: d177 :: d178 :: d179 :: d180 :: d181 :: d182 :: d183 :: d184 :: d185 :: d186 :: d187 :: d188 :: d189 :: d190 :: d191 :: d192 :: d193 :: d194 :: d195 :: d196 :: d197 :: d198 :: d199 :: d200 :: d201 :: d202 :: d203 :: d204 :: d205 :: d206 :: d207 :: d208 :: d209 :: d210 :: d211 :: d212 :: d213 :: d214 :: d215 :: d216 :: d217 :: d218 :: d219 :: d220 :: d221 :: d222 :: d223 :: d224 :: d225 :: d226 :: d227 :: d228 :: d229 :: d230 :: d231 :: d232 :: d233 :: d234 :: d235 :: d236 :: d237 :: d238 :: d239 :: d240 :: d241 :: d242 :: d243 :: d244 :: d245 :: d246 :: d247 :: d248 :: d249 :: d250 :: d251 :: kk252 :: [])), []⟩ w') :
    Code.wp Try.prog (Code.loop loopA) Q ⟨(List.toArray (kk0 :: kk1 :: kk2 :: kk3 :: kk4 :: (.slice As K.length cs) :: kk6 :: kk7 :: kk8 :: kk9 :: kk10 :: kk11 :: (.slice A8 K7.length c8) :: (.int .i64 0) :: kk14 :: kk15 :: kk16 :: kk17 :: kk18 :: kk19 :: kk20 :: kk21 :: kk22 :: kk23 :: kk24 :: kk25 :: kk26 :: kk27 :: kk28 :: kk29 :: kk30 :: kk31 :: kk32 :: kk33 :: kk34 :: kk35 :: kk36 :: kk37 :: kk38 :: kk39 :: kk40 :: kk41 :: kk42 :: kk43 :: kk44 :: kk45 :: kk46 :: kk47 :: kk48 :: kk49 :: kk50 :: kk51 :: kk52 :: kk53 :: kk54 :: kk55 :: kk56 :: kk57 :: kk58 :: kk59 :: kk60 :: kk61 :: kk62 :: kk63 :: kk64 :: kk65 :: kk66 :: kk67 :: kk68 :: kk69 :: kk70 :: kk71 :: kk72 :: kk73 :: kk74 :: kk75 :: kk76 :: kk77 :: kk78 :: kk79 :: kk80 :: kk81 :: kk82 :: kk83 :: kk84 :: kk85 :: kk86 :: kk87 :: kk88 :: kk89 :: kk90 :: kk91 :: kk92 :: kk93 :: kk94 :: kk95 :: kk96 :: kk97 :: kk98 :: kk99 :: kk100 :: kk101 :: kk102 :: kk103 :: kk104 :: kk105 :: kk106 :: kk107 :: kk108 :: kk109 :: kk110 :: kk111 :: kk112 :: kk113 :: kk114 :: kk115 :: kk116 :: kk117 :: kk118 :: kk119 :: kk120 :: kk121 :: kk122 :: kk123 :: kk124 :: kk125 :: kk126 :: kk127 :: kk128 :: kk129 :: kk130 :: kk131 :: kk132 :: kk133 :: kk134 :: kk135 :: kk136 :: kk137 :: kk138 :: kk139 :: kk140 :: kk141 :: kk142 :: kk143 :: kk144 :: kk145 :: kk146 :: kk147 :: kk148 :: kk149 :: kk150 :: kk151 :: kk152 :: kk153 :: kk154 :: kk155 :: kk156 :: kk157 :: kk158 :: kk159 :: kk160 :: kk161 :: kk162 :: kk163 :: kk164 :: kk165 :: kk166 :: kk167 :: kk168 :: kk169 :: kk170 :: kk171 :: kk172 :: kk173 :: kk174 :: kk175 :: kk176 :: kk177 :: kk178 :: kk179 :: kk180 :: kk181 :: kk182 :: kk183 :: kk184 :: kk185 :: kk186 :: kk187 :: kk188 :: kk189 :: kk190 :: kk191 :: kk192 :: kk193 :: kk194 :: kk195 :: kk196 :: kk197 :: kk198 :: kk199 :: kk200 :: kk201 :: kk202 :: kk203 :: kk204 :: kk205 :: kk206 :: kk207 :: kk208 :: kk209 :: kk210 :: kk211 :: kk212 :: kk213 :: kk214 :: kk215 :: kk216 :: kk217 :: kk218 :: kk219 :: kk220 :: kk221 :: kk222 :: kk223 :: kk224 :: kk225 :: kk226 :: kk227 :: kk228 :: kk229 :: kk230 :: kk231 :: kk232 :: kk233 :: kk234 :: kk235 :: kk236 :: kk237 :: kk238 :: kk239 :: kk240 :: kk241 :: kk242 :: kk243 :: kk244 :: kk245 :: kk246 :: kk247 :: kk248 :: kk249 :: kk250 :: kk251 :: kk252 :: [])), []⟩ w9 := by
  have RS := Lib.hid RS'
  have RN := Lib.hid RN'
  have L7 := Lib.hid L7'
  have HOKK := Lib.hid HOKK'
  have HOK7 := Lib.hid HOK7'
  have HB9 := Lib.hid hb9
  clear RS' RN' L7' HOKK' HOK7' hb9
  conv => arg 2; arg 1; whnf
  go_loopw [13] (fun iv wr => ∃ a : Nat, a ≤ K.length ∧ iv = .int .i64 a ∧ Below w8.heap.size w8 wr) (fun iv _ => K.length - (intOf iv).toNat)
  case atStart => exact ⟨0, by omega, rfl, HB9.out⟩
  case round =>
    obtain ⟨a, ha, rfl, hb⟩ := hrel
    obtain ⟨w9, rfl⟩ : ∃ w9 : World, w9 = wr := ⟨_, rfl⟩
    have HB := Lib.hid hb
    clear hb
    by_cases hlt9 : a < K.length
    · have ha7 : a < K7.length := by omega
      obtain ⟨As', cs', es, -, -, hats⟩ := RS.out.at_
      simp only [Value.slice.injEq] at es
      obtain ⟨rfl, -, rfl⟩ := es
      obtain ⟨An', cn', en, -, -, hatn⟩ := RN.out.at_
      simp only [Value.slice.injEq] at en
      obtain ⟨rfl, -, rfl⟩ := en
      obtain ⟨gs, os, rfl, hgs, hcs⟩ := hats (by omega)
      obtain ⟨gn, on, rfl, hgn, hcn⟩ := hatn (by omega)
      obtain ⟨-, vs, s1, s2⟩ := hcs a hlt9
      obtain ⟨-, vn, n1, n2⟩ := hcn a ha7
      obtain ⟨A2, c2, rfl, -, -, -, hat2⟩ := s2.at_
      obtain ⟨A3, c3, rfl, -, -, -, hat3⟩ := n2.at_
      have hrl := L7.out.2 a hlt9 ha7
      have hll := hrl.1
      have ho7 := (HOK7.out.2 _ (List.getElem_mem ha7))
      have hoK := (HOKK.out.2 _ (List.getElem_mem hlt9))
      have HRL := Lib.hid hrl
      have HO7 := Lib.hid ho7
      have HOA := Lib.hid hoK
      have h47 := ho7.1.2
      obtain ⟨r, hr⟩ : ∃ r, r = K[a]'hlt9 := ⟨_, rfl⟩
      obtain ⟨r7, hr7⟩ : ∃ r, r = K7[a]'ha7 := ⟨_, rfl⟩
      rw [← hr] at s1 hat2 hll HRL HOA
      rw [← hr7] at n1 hat3 hll HRL HO7 h47
      obtain ⟨L, hL⟩ : ∃ L, L = r.l.length := ⟨_, rfl⟩
      obtain ⟨N, hN⟩ : ∃ N, N = r7.l.length := ⟨_, rfl⟩
      rw [← hL] at s1 hll
      rw [← hN] at n1 hll h47
      have HLn := Lib.hid hL
      have HNn := Lib.hid hN
      have H2 := Lib.hid hat2
      have H3 := Lib.hid hat3
      have S1 := Lib.hid s1
      have N1 := Lib.hid n1
      have GS := Lib.hid hgs
      have GN := Lib.hid hgn
      clear hats hatn hcs hcn s2 n2 hrl ho7 hoK hr hr7 hL hN hat2 hat3 s1 n1 hgs hgn
      have q1 : ∀ z : After w9, z.val.cell? ⟨gs, os + a * 2 + 1, none⟩ = some (.slice A2 L c2) := fun z => ((onto HB.out HB.out.size z.below).cell (p := ⟨gs, os + a * 2 + 1, none⟩) GS.out).trans S1.out
      have q2 : ∀ z : After w9, z.val.cell? ⟨gn, on + a * 2 + 1, none⟩ = some (.slice A3 N c3) := fun z => ((onto HB.out HB.out.size z.below).cell (p := ⟨gn, on + a * 2 + 1, none⟩) GN.out).trans N1.out
      have d1 : decide ((N : Int) < (L : Int)) = false := by simp; omega
      have d2 : decide ((4 : Int) < (N : Int)) = false := by simp; omega
      have d1' : decide (N < L) = false := by simp; omega
      have ha8 : a < 8 := by omega
      go_wp2_with fail
      refine seen_region (by kernel_rfl) (by kernel_rfl) ?_
      repeat (go_big_quiet_step (fail))
      refine wpQuiet_nil ?_
      rintro _ ⟨z, rfl⟩
      have B10 := Lib.hid (onto HB.out HB.out.size z.below)
      clear q1 q2 d1 d2 d1' HB
      go_wp2_with fail
      refine loopB_any hlt9 ha7 ha8 hll h47 HLn.out HNn.out HRL.out HOA.out HO7.out S1.out N1.out GS.out GN.out H2.out H3.out B10.out ?_
      intro d2 d15 d16 d187 d188 d189 d190 d191 d192 d193 d194 d195 d196 d197 d198 d199 d200 d201 d202 d203 d204 d205 d206 d207 d208 d209 d210 d211 d212 d213 d214 d215 d216 d217 d218 d219 d220 d221 d222 d223 d224 d225 d226 d227 d228 d229 d230 d231 d232 d233 d234 d235 d236 d237 d238 d239 d240 d241 d242 d243 d244 d245 d246 d247 d248 d249 d250 d251 w11 hb11
      have B11 := Lib.hid hb11
      clear hb11 B10
      go_wp2_with fail
      go_roundw
      case rel => exact ⟨a + 1, by omega, by go_num, B11.out⟩
      case measure => simp [intOf]; omega
    · obtain rfl : a = K.length := by omega
      have hd9 : decide ((K.length : Int) < (K.length : Int)) = false := by simp
      go_wp2_with fail
      exact HB.out
end Go.Proofs.Ytabchkcieddhpaa.Oct
