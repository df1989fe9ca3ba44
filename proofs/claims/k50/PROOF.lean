import PyProof.Rows.All
import Wide.All
import OpenK.AllK
import Wide.FinOn
import Lean
import PyProof.EqAt
import PyProof.EqKinds
import PyProof.TupleCall
import PyProof.NeKinds
import PyProof.FactsAll.list
import PyProof.ListMulRoad
import PyProof.FactsAll.tuple
import PyProof.Rows.TupAdd
import PyProof.StationsW
import PyProof.RulesAs
import OpenK.KOwn
import OpenK.KMake
import PyProof.ExcClass3
import PyProof.ExcInit
import PyProof.InstStoreFacts
import PyProof.ExcAttrAll.ValueError
import PyProof.NsDelKeeps
import KE.KTryMore
import KE.KIsAll
import KE.KDictSum
import PyProof.Rows.SortWalk
import PyProof.StrOps2
import PyProof.WalkInts
import OpenK.KCls
import PyProof.DictWalks
import KE.KRevIter
import PyProof.ListNew
import PyProof.EnumMake
import PyProof.EnumFor
import PyProof.Rows.SortRuns
import PyProof.FactsAll.NoneType_1
import PyProof.DictRoadsH
import PyProof.SeqI3
import KE.KEqDict
import PyProof.InstEq
import PyProof.ListRange
import PyProof.TupleOfStr
import PySem.Challenge.RW_papervault_k50_shown_where_the_keeper_fa
set_option compiler.extract_closed false
local macro_rules | `(tactic| omega) => `(tactic| first | assumption | decide | lia)
set_option Elab.async false
set_option linter.all false
set_option maxRecDepth 100000
set_option maxHeartbeats 4000000
namespace L2
open PySem
def inClass (s:Stmt)(j:Nat):Stmt:=match s with
 | .ClassDef _ _ _ body _ _ _ _ _ _ _=>body.getD j (.Pass ⟨0,0,0,0⟩)
 | _=>.Pass ⟨0,0,0,0⟩
def zP (s:Stmt):Arguments:=match s with
 | .FunctionDef _ a _ _ _ _ _ _ _ _=>a
 | _=>{posonlyargs:=[],args:=[],vararg:=none,kwonlyargs:=[],kw_defaults:=[],kwarg:=none,defaults:=[]}
def zD (s:Stmt):List Stmt:=match s with
 | .FunctionDef _ _ b _ _ _ _ _ _ _=>b
 | _=>[]
def ze (s:Stmt):Scope:=match s with
 | .FunctionDef _ _ _ _ _ _ sc _ _ _=>sc
 | _=>{kind:=.function,names:=[],isGenerator:=false,isCoroutine:=false}
end L2
namespace Pv
open PySem
def top (i:Nat):Stmt:=PySem.Challenge.pw_papervault_k50_shown_where_the_keeper_fa.main.body.getD i (.Pass ⟨0,0,0,0⟩)
end Pv
namespace Pv
open PySem PySem.W
abbrev dE (P:Params)(x:Str)(t:Nat)(v:Value):DictEntry:=DictEntry.mk (PyData.keyHash P x) (.str x t) v
abbrev cO (n:Str)(a:Nat)(q:Str)(b c:Nat)(l x y z w:Int)(r:Addr)(g:Bool)(r2:Addr)(e1 e2 e3 e4:Value)(t m:Int)(d:Nat):Obj:=.mk (.type "code") none (.fields #[.str n a,.str q b,.str "/claim/cut.py" c,.int l 0,.int x 0,.int y 0,.int z 0,.int w 0,.ref r,.bool g,.int 181 0,.ref r2,e1,e2,e3,e4,.int t 0,.int m 0,.str "/claim/cut.py" d]) #[]
abbrev _root_.QM:=Option Addr
abbrev fO (c:Value)(n q:Str)(st:Stmt)(g:Addr)(cl:List (Str ×Addr))(df kd doc md:Value)(an:QM)(cd ct:Value)(bl:Addr):Obj:=.mk c none (.func (.mk n q (L2.zP st) (.stmts (L2.zD st)) (L2.ze st) g cl df kd doc md an cd ct bl)) #[]
abbrev f0 (n q:Str)(st:Stmt):Obj:=fO .none n q st 0 [] .none .none .none .none none .none .none 0
abbrev f1 (n q:Str)(st:Stmt)(m:Str)(k:Nat)(r:Addr):Obj:=fO (.type "function") n q st 3 [] .none .none .none (.str m k) none (.ref r) .none 0
abbrev tO (a:Array Value):Obj:=.mk (.type "tuple") none (.seq a) #[]
abbrev dO (a:Array DictEntry)(n:Nat):Obj:=.mk (.type "dict") none (.dict a n) #[]
def sp:List Obj->List Obj ×List Obj
 | []=>([],[])
 | x::r=>(x::(sp r).2,(sp r).1)
def bt:Nat->List Obj->BT
 | 0,_=>.nil
 | _+1,[]=>.nil
 | n+1,x::r=>.node x (bt n (sp r).1) (bt n (sp r).2)
def wv:List Nat->List Obj->List Obj->List Obj
 | [],_,_=>[]
 | n::r,a,b=>a.take n++wv r b (a.drop n)
def rgs:List (Nat ×Nat)->List Nat
 | []=>[]
 | (a,n)::r=>List.range' a n++rgs r
noncomputable section
noncomputable abbrev oo0 (P:Params):Obj:=dO #[dE P "__name__" 165 (.str "__main__" 164),dE P "__doc__" 166 .none,dE P "__package__" 167 .none,dE P "__loader__" 168 (.builtin "__main__.__loader__#opaque"),dE P "__spec__" 169 .none,dE P "__annotations__" 170 (.ref 6),dE P "__builtins__" 171 (.ref 4),dE P "__file__" 173 (.str "/claim/cut.py" 172),dE P "__cached__" 174 .none] 9
noncomputable abbrev oo1 (P:Params):Obj:=dO #[dE P "__name__" 165 (.str "papervault.vaults" 367),dE P "__doc__" 166 .none,dE P "__package__" 167 .none,dE P "__loader__" 168 (.builtin "__main__.__loader__#opaque"),dE P "__spec__" 169 .none,dE P "__annotations__" 170 (.ref 6),dE P "__builtins__" 171 (.ref 4),dE P "__file__" 173 (.str "/claim/cut.py" 172),dE P "__cached__" 174 .none,dE P "VaultError" 206 (.ref 24),dE P "NoPaper" 222 (.ref 37),dE P "BadThing" 238 (.ref 49),dE P "Clash" 265 (.ref 68),dE P "seal" 276 (.ref 77),dE P "codes" 282 (.ref 82),dE P "number_of" 291 (.ref 89),dE P "MOST_SIGNS" 295 (.int 60 294),dE P "MOST_PARTS" 297 (.int 40 296),dE P "MOST_DEEP" 299 (.int 5 298),dE P "PERCENT" 301 (.int 37 300),dE P "is_whole" 308 (.ref 96),dE P "is_thing" 315 (.ref 103),dE P "is_thing_within" 323 (.ref 110),dE P "is_tuple_within" 332 (.ref 117),dE P "has_signs_of_things" 340 (.ref 124),dE P "kind_of" 347 (.ref 131),dE P "ahead" 356 (.ref 138),dE P "is_tuple_ahead" 366 (.ref 145),dE P "rising" 374 (.ref 150),dE P "Vault" 428 (.ref 188)] 30
noncomputable abbrev oo2 (P:Params):Obj:=.mk .none none (.fields #[.int 2 0,.int 0 0,.ref 20,.int 4 0,.int 0 0,.ref 33,.int 6 0,.int 0 0,.ref 45,.int 8 0,.int 0 0,.ref 57,.int 14 0,.int 0 0,.ref 76,.int 19 0,.int 0 0,.ref 81,.int 32 0,.int 0 0,.ref 88,.int 42 0,.int 0 0,.ref 95,.int 44 0,.int 0 0,.ref 102,.int 46 0,.int 0 0,.ref 109,.int 54 0,.int 0 0,.ref 116,.int 61 0,.int 0 0,.ref 123,.int 66 0,.int 0 0,.ref 130,.int 74 0,.int 0 0,.ref 137,.int 83 0,.int 0 0,.ref 144,.int 89 0,.int 0 0,.ref 149,.int 91 0,.int 0 0,.ref 156]) #[]
noncomputable abbrev oo3 (P:Params):Obj:=.mk (.type "type") none (.cls (ClassData.mk "Vault" [.type "object"] [.ref 188,.type "object"] 187 "Vault" true [] [] false none false)) #[none,none,some (.str "Vault" 375),some (.str "Vault" 383),some (.builtin "object.__new__"),some (.bool true)]
noncomputable abbrev oo4 (P:Params):Obj:=dO #[dE P "__name__" 165 (.str "papervault.asks" 764),dE P "__doc__" 166 .none,dE P "__package__" 167 .none,dE P "__loader__" 168 (.builtin "__main__.__loader__#opaque"),dE P "__spec__" 169 .none,dE P "__annotations__" 170 (.ref 6),dE P "__builtins__" 171 (.ref 4),dE P "__file__" 173 (.str "/claim/cut.py" 172),dE P "__cached__" 174 .none,dE P "VaultError" 206 (.ref 24),dE P "NoPaper" 222 (.ref 37),dE P "BadThing" 238 (.ref 49),dE P "Clash" 265 (.ref 68),dE P "seal" 276 (.ref 77),dE P "codes" 282 (.ref 82),dE P "number_of" 291 (.ref 89),dE P "MOST_SIGNS" 295 (.int 60 294),dE P "MOST_PARTS" 297 (.int 40 296),dE P "MOST_DEEP" 299 (.int 5 298),dE P "PERCENT" 301 (.int 37 300),dE P "is_whole" 308 (.ref 96),dE P "is_thing" 315 (.ref 103),dE P "is_thing_within" 323 (.ref 110),dE P "is_tuple_within" 332 (.ref 117),dE P "has_signs_of_things" 340 (.ref 124),dE P "kind_of" 347 (.ref 131),dE P "ahead" 356 (.ref 138),dE P "is_tuple_ahead" 366 (.ref 145),dE P "rising" 374 (.ref 150),dE P "Vault" 428 (.ref 188),dE P "Keeper" 451 (.ref 209),dE P "Reader" 502 (.ref 249),dE P "Witness" 527 (.ref 268),dE P "answer_with_paper" 540 (.ref 277),dE P "checked" 549 (.ref 284),dE P "clashes_with" 560 (.ref 291),dE P "clash_of" 572 (.ref 298),dE P "shown" 583 (.ref 305),dE P "KEY" 587 (.int 0 586),dE P "WORTH" 589 (.int 1 588),dE P "LEFT" 591 (.int 2 590),dE P "RIGHT" 593 (.int 3 592),dE P "COUNT" 595 (.int 4 594),dE P "MOST_NODES" 597 (.int 300 596),dE P "BENEATH_NONE" 599 (.int 301 598),dE P "node_beneath" 609 (.ref 312),dE P "is_node" 616 (.ref 319),dE P "is_root" 623 (.ref 326),dE P "rank" 630 (.ref 333),dE P "above" 640 (.ref 340),dE P "side_of" 650 (.ref 347),dE P "way_to" 662 (.ref 354),dE P "ends_at" 670 (.ref 361),dE P "with_tree" 680 (.ref 368),dE P "hung" 692 (.ref 375),dE P "parted" 708 (.ref 382),dE P "place_in" 718 (.ref 389),dE P "put" 734 (.ref 396),dE P "cut" 745 (.ref 403),dE P "joined" 763 (.ref 410)] 60
noncomputable abbrev oo5 (P:Params):Obj:=.mk .none none (.fields #[.int 2 0,.int 0 0,.ref 20,.int 4 0,.int 0 0,.ref 33,.int 6 0,.int 0 0,.ref 45,.int 8 0,.int 0 0,.ref 57,.int 14 0,.int 0 0,.ref 76,.int 19 0,.int 0 0,.ref 81,.int 32 0,.int 0 0,.ref 88,.int 42 0,.int 0 0,.ref 95,.int 44 0,.int 0 0,.ref 102,.int 46 0,.int 0 0,.ref 109,.int 54 0,.int 0 0,.ref 116,.int 61 0,.int 0 0,.ref 123,.int 66 0,.int 0 0,.ref 130,.int 74 0,.int 0 0,.ref 137,.int 83 0,.int 0 0,.ref 144,.int 89 0,.int 0 0,.ref 149,.int 91 0,.int 0 0,.ref 156,.int 110 0,.int 0 0,.ref 198,.int 114 0,.int 0 0,.ref 217,.int 137 0,.int 0 0,.ref 257,.int 146 0,.int 0 0,.ref 276,.int 150 0,.int 0 0,.ref 283,.int 153 0,.int 0 0,.ref 290,.int 158 0,.int 0 0,.ref 297,.int 169 0,.int 0 0,.ref 304,.int 190 0,.int 0 0,.ref 311,.int 195 0,.int 0 0,.ref 318,.int 203 0,.int 0 0,.ref 325,.int 205 0,.int 0 0,.ref 332,.int 207 0,.int 0 0,.ref 339,.int 214 0,.int 0 0,.ref 346,.int 216 0,.int 0 0,.ref 353,.int 227 0,.int 0 0,.ref 360,.int 229 0,.int 0 0,.ref 367,.int 233 0,.int 0 0,.ref 374,.int 237 0,.int 0 0,.ref 381,.int 250 0,.int 0 0,.ref 388,.int 255 0,.int 0 0,.ref 395,.int 266 0,.int 0 0,.ref 402,.int 272 0,.int 0 0,.ref 409]) #[]
noncomputable def KK:Params->Frag:=λP=>
(nat_lit 2,.mk .none none (.dict #[]) #[])::
(nat_lit 3,dO #[dE P "__name__" 165 (.str "law_papervault_k50_shown_where_the_keeper_fa" 831),dE P "__doc__" 166 .none,dE P "__package__" 167 .none,dE P "__loader__" 168 (.builtin "__main__.__loader__#opaque"),dE P "__spec__" 169 .none,dE P "__annotations__" 170 (.ref 6),dE P "__builtins__" 171 (.ref 4),dE P "__file__" 173 (.str "/claim/cut.py" 172),dE P "__cached__" 174 .none,dE P "VaultError" 206 (.ref 24),dE P "NoPaper" 222 (.ref 37),dE P "BadThing" 238 (.ref 49),dE P "Clash" 265 (.ref 68),dE P "seal" 276 (.ref 77),dE P "codes" 282 (.ref 82),dE P "number_of" 291 (.ref 89),dE P "MOST_SIGNS" 295 (.int 60 294),dE P "MOST_PARTS" 297 (.int 40 296),dE P "MOST_DEEP" 299 (.int 5 298),dE P "PERCENT" 301 (.int 37 300),dE P "is_whole" 308 (.ref 96),dE P "is_thing" 315 (.ref 103),dE P "is_thing_within" 323 (.ref 110),dE P "is_tuple_within" 332 (.ref 117),dE P "has_signs_of_things" 340 (.ref 124),dE P "kind_of" 347 (.ref 131),dE P "ahead" 356 (.ref 138),dE P "is_tuple_ahead" 366 (.ref 145),dE P "rising" 374 (.ref 150),dE P "Vault" 428 (.ref 188),dE P "Keeper" 451 (.ref 209),dE P "Reader" 502 (.ref 249),dE P "Witness" 527 (.ref 268),dE P "answer_with_paper" 540 (.ref 277),dE P "checked" 549 (.ref 284),dE P "clashes_with" 560 (.ref 291),dE P "clash_of" 572 (.ref 298),dE P "shown" 583 (.ref 305),dE P "KEY" 587 (.int 0 586),dE P "WORTH" 589 (.int 1 588),dE P "LEFT" 591 (.int 2 590),dE P "RIGHT" 593 (.int 3 592),dE P "COUNT" 595 (.int 4 594),dE P "MOST_NODES" 597 (.int 300 596),dE P "BENEATH_NONE" 599 (.int 301 598),dE P "node_beneath" 609 (.ref 312),dE P "is_node" 616 (.ref 319),dE P "is_root" 623 (.ref 326),dE P "rank" 630 (.ref 333),dE P "above" 640 (.ref 340),dE P "side_of" 650 (.ref 347),dE P "way_to" 662 (.ref 354),dE P "ends_at" 670 (.ref 361),dE P "with_tree" 680 (.ref 368),dE P "hung" 692 (.ref 375),dE P "parted" 708 (.ref 382),dE P "place_in" 718 (.ref 389),dE P "put" 734 (.ref 396),dE P "cut" 745 (.ref 403),dE P "joined" 763 (.ref 410),dE P "Ask" 794 (.ref 427),dE P "Put" 830 (.ref 455),dE P "_law_cell_at" 840 (.ref 464),dE P "_law_turned" 852 (.ref 471),dE P "_law_key" 860 (.ref 478),dE P "_law_worth" 868 (.ref 485),dE P "_law_rising" 874 (.ref 490),dE P "_law_before" 882 (.ref 497),dE P "_law_grown" 895 (.ref 504),dE P "_law_within" 906 (.ref 511),dE P "_law_twinned" 912 (.ref 516),dE P "_law_copy" 921 (.ref 523),dE P "_law_one" 927 (.ref 528),dE P "_law_holds" 938 (.ref 535),dE P "law" 948 (.ref 542)] 75)::
(nat_lit 15,tO #[.type "ValueError"])::
(nat_lit 22,tO #[])::
(nat_lit 23,dO #[dE P "__module__" 196 (.str "papervault.errors" 187),dE P "__firstlineno__" 200 (.int 2 199),dE P "__static_attributes__" 201 (.ref 22),dE P "__weakref__" 203 (.ref 25),dE P "__doc__" 204 .none] 3)::
(nat_lit 24,.mk (.type "type") none (.cls (ClassData.mk "VaultError" [.type "ValueError"] [.ref 24,.type "ValueError",.type "Exception",.type "BaseException",.type "object"] 23 "VaultError" true [] [.ref 37,.ref 49,.ref 68] false none false)) #[some (.ref 15),none,some (.str "VaultError" 189),some (.str "VaultError" 197),some (.builtin "ValueError.__new__"),some (.bool true)])::
(nat_lit 25,.mk (.type "getset_descriptor") none (.fields #[.str "__weakref__" 202,.ref 24,.builtin "ExceptionGroup.__weakref__",.none]) #[])::
(nat_lit 28,tO #[.ref 24])::
(nat_lit 35,tO #[])::
(nat_lit 36,dO #[dE P "__module__" 214 (.str "papervault.errors" 187),dE P "__firstlineno__" 218 (.int 4 217),dE P "__static_attributes__" 219 (.ref 35),dE P "__doc__" 220 .none] 2)::
(nat_lit 37,.mk (.type "type") none (.cls (ClassData.mk "NoPaper" [.ref 24] [.ref 37,.ref 24,.type "ValueError",.type "Exception",.type "BaseException",.type "object"] 36 "NoPaper" true [] [] false none false)) #[some (.ref 28),none,some (.str "NoPaper" 207),some (.str "NoPaper" 215),some (.builtin "ValueError.__new__"),some (.bool true)])::
(nat_lit 40,tO #[.ref 24])::
(nat_lit 47,tO #[])::
(nat_lit 48,dO #[dE P "__module__" 230 (.str "papervault.errors" 187),dE P "__firstlineno__" 234 (.int 6 233),dE P "__static_attributes__" 235 (.ref 47),dE P "__doc__" 236 .none] 2)::
(nat_lit 49,.mk (.type "type") none (.cls (ClassData.mk "BadThing" [.ref 24] [.ref 49,.ref 24,.type "ValueError",.type "Exception",.type "BaseException",.type "object"] 48 "BadThing" true [] [] false none false)) #[some (.ref 40),none,some (.str "BadThing" 223),some (.str "BadThing" 231),some (.builtin "ValueError.__new__"),some (.bool true)])::
(nat_lit 52,tO #[.ref 24])::
(nat_lit 59,tO #[])::
(nat_lit 61,tO #[.str "self" 254,.str "one" 255,.str "other" 256])::
(nat_lit 62,tO #[])::
(nat_lit 64,cO "__init__" 251 "Clash.__init__" 252 253 10 3 0 0 3 59 true 60 .none (.ref 61) (.ref 62) (.ref 63) 257 10 258)::
(nat_lit 65,f1 "__init__" "Clash.__init__" (L2.inClass (Pv.top 4) 0) "papervault.errors" 187 64)::
(nat_lit 66,tO #[.str "one" 260,.str "other" 261])::
(nat_lit 67,dO #[dE P "__module__" 246 (.str "papervault.errors" 187),dE P "__firstlineno__" 250 (.int 8 249),dE P "__init__" 259 (.ref 65),dE P "__static_attributes__" 262 (.ref 66),dE P "__doc__" 263 .none] 2)::
(nat_lit 68,.mk (.type "type") none (.cls (ClassData.mk "Clash" [.ref 24] [.ref 68,.ref 24,.type "ValueError",.type "Exception",.type "BaseException",.type "object"] 67 "Clash" true [] [] false none false)) #[some (.ref 52),none,some (.str "Clash" 239),some (.str "Clash" 247),some (.builtin "ValueError.__new__"),some (.bool true)])::
(nat_lit 71,tO #[])::
(nat_lit 73,tO #[.str "thing" 271,.str "folded" 272,.str "code" 273])::
(nat_lit 74,tO #[])::
(nat_lit 76,cO "seal" 268 "seal" 269 270 14 1 0 0 3 71 true 72 .none (.ref 73) (.ref 74) (.ref 75) 274 14 275)::
(nat_lit 77,f1 "seal" "seal" (Pv.top 6) "papervault.seals" 266 76)::
(nat_lit 78,tO #[])::
(nat_lit 81,cO "codes" 277 "codes" 278 279 19 1 0 0 3 78 true 79 .none .none .none (.ref 80) 280 19 281)::
(nat_lit 82,f1 "codes" "codes" (Pv.top 7) "papervault.seals" 266 81)::
(nat_lit 83,tO #[])::
(nat_lit 85,tO #[.str "signs" 286,.str "number" 287,.str "sign" 288])::
(nat_lit 86,tO #[])::
(nat_lit 88,cO "number_of" 283 "number_of" 284 285 32 1 0 0 3 83 true 84 .none (.ref 85) (.ref 86) (.ref 87) 289 32 290)::
(nat_lit 89,f1 "number_of" "number_of" (Pv.top 8) "papervault.seals" 266 88)::
(nat_lit 90,tO #[])::
(nat_lit 92,tO #[.str "value" 305])::
(nat_lit 93,tO #[])::
(nat_lit 95,cO "is_whole" 302 "is_whole" 303 304 42 1 0 0 3 90 true 91 .none (.ref 92) (.ref 93) (.ref 94) 306 42 307)::
(nat_lit 96,f1 "is_whole" "is_whole" (Pv.top 14) "papervault.things" 292 95)::
(nat_lit 97,tO #[])::
(nat_lit 99,tO #[.str "thing" 312])::
(nat_lit 100,tO #[])::
(nat_lit 102,cO "is_thing" 309 "is_thing" 310 311 44 1 0 0 3 97 true 98 .none (.ref 99) (.ref 100) (.ref 101) 313 44 314)::
(nat_lit 103,f1 "is_thing" "is_thing" (Pv.top 15) "papervault.things" 292 102)::
(nat_lit 104,tO #[])::
(nat_lit 106,tO #[.str "thing" 319,.str "deep" 320])::
(nat_lit 107,tO #[])::
(nat_lit 109,cO "is_thing_within" 316 "is_thing_within" 317 318 46 2 0 0 3 104 true 105 .none (.ref 106) (.ref 107) (.ref 108) 321 46 322)::
(nat_lit 110,f1 "is_thing_within" "is_thing_within" (Pv.top 16) "papervault.things" 292 109)::
(nat_lit 111,tO #[])::
(nat_lit 113,tO #[.str "parts" 327,.str "deep" 328,.str "part" 329])::
(nat_lit 114,tO #[])::
(nat_lit 116,cO "is_tuple_within" 324 "is_tuple_within" 325 326 54 2 0 0 3 111 true 112 .none (.ref 113) (.ref 114) (.ref 115) 330 54 331)::
(nat_lit 117,f1 "is_tuple_within" "is_tuple_within" (Pv.top 17) "papervault.things" 292 116)::
(nat_lit 118,tO #[])::
(nat_lit 120,tO #[.str "text" 336,.str "sign" 337])::
(nat_lit 121,tO #[])::
(nat_lit 123,cO "has_signs_of_things" 333 "has_signs_of_things" 334 335 61 1 0 0 3 118 true 119 .none (.ref 120) (.ref 121) (.ref 122) 338 61 339)::
(nat_lit 124,f1 "has_signs_of_things" "has_signs_of_things" (Pv.top 18) "papervault.things" 292 123)::
(nat_lit 125,tO #[])::
(nat_lit 127,tO #[.str "thing" 344])::
(nat_lit 128,tO #[])::
(nat_lit 130,cO "kind_of" 341 "kind_of" 342 343 66 1 0 0 3 125 true 126 .none (.ref 127) (.ref 128) (.ref 129) 345 66 346)::
(nat_lit 131,f1 "kind_of" "kind_of" (Pv.top 19) "papervault.things" 292 130)::
(nat_lit 132,tO #[])::
(nat_lit 134,tO #[.str "one" 351,.str "other" 352,.str "kind" 353])::
(nat_lit 135,tO #[])::
(nat_lit 137,cO "ahead" 348 "ahead" 349 350 74 2 0 0 3 132 true 133 .none (.ref 134) (.ref 135) (.ref 136) 354 74 355)::
(nat_lit 138,f1 "ahead" "ahead" (Pv.top 20) "papervault.things" 292 137)::
(nat_lit 139,tO #[])::
(nat_lit 141,tO #[.str "one" 360,.str "other" 361,.str "mine" 362,.str "its" 363])::
(nat_lit 142,tO #[])::
(nat_lit 144,cO "is_tuple_ahead" 357 "is_tuple_ahead" 358 359 83 2 0 0 3 139 true 140 .none (.ref 141) (.ref 142) (.ref 143) 364 83 365)::
(nat_lit 145,f1 "is_tuple_ahead" "is_tuple_ahead" (Pv.top 21) "papervault.things" 292 144)::
(nat_lit 146,tO #[])::
(nat_lit 149,cO "rising" 369 "rising" 370 371 89 1 0 0 3 146 true 147 .none .none .none (.ref 148) 372 89 373)::
(nat_lit 150,f1 "rising" "rising" (Pv.top 23) "papervault.vaults" 367 149)::
(nat_lit 158,tO #[])::
(nat_lit 160,tO #[.str "self" 390])::
(nat_lit 161,tO #[])::
(nat_lit 163,cO "__init__" 387 "Vault.__init__" 388 389 93 1 0 0 3 158 true 159 .none (.ref 160) (.ref 161) (.ref 162) 391 93 392)::
(nat_lit 164,f1 "__init__" "Vault.__init__" (L2.inClass (Pv.top 24) 0) "papervault.vaults" 367 163)::
(nat_lit 165,tO #[])::
(nat_lit 167,tO #[.str "self" 397,.str "number" 398,.str "thing" 399])::
(nat_lit 168,tO #[])::
(nat_lit 170,cO "refuse_clash" 394 "Vault.refuse_clash" 395 396 96 3 0 0 3 165 true 166 .none (.ref 167) (.ref 168) (.ref 169) 400 96 401)::
(nat_lit 171,f1 "refuse_clash" "Vault.refuse_clash" (L2.inClass (Pv.top 24) 1) "papervault.vaults" 367 170)::
(nat_lit 172,tO #[])::
(nat_lit 174,tO #[.str "self" 406,.str "thing" 407,.str "number" 408])::
(nat_lit 175,tO #[])::
(nat_lit 177,cO "lay" 403 "Vault.lay" 404 405 100 2 0 0 3 172 true 173 .none (.ref 174) (.ref 175) (.ref 176) 409 100 410)::
(nat_lit 178,f1 "lay" "Vault.lay" (L2.inClass (Pv.top 24) 2) "papervault.vaults" 367 177)::
(nat_lit 179,tO #[])::
(nat_lit 181,tO #[.str "self" 415,.str "number" 416])::
(nat_lit 182,tO #[])::
(nat_lit 184,cO "thing" 412 "Vault.thing" 413 414 106 2 0 0 3 179 true 180 .none (.ref 181) (.ref 182) (.ref 183) 417 106 418)::
(nat_lit 185,f1 "thing" "Vault.thing" (L2.inClass (Pv.top 24) 3) "papervault.vaults" 367 184)::
(nat_lit 186,tO #[.str "laid" 420])::
(nat_lit 187,dO #[dE P "__module__" 382 (.str "papervault.vaults" 367),dE P "__firstlineno__" 386 (.int 91 385),dE P "__init__" 393 (.ref 164),dE P "refuse_clash" 402 (.ref 171),dE P "lay" 411 (.ref 178),dE P "thing" 419 (.ref 185),dE P "__static_attributes__" 421 (.ref 186),dE P "__dict__" 423 (.ref 189),dE P "__weakref__" 425 (.ref 190),dE P "__doc__" 426 .none] 4)::
(nat_lit 188,.mk (.type "type") none (.cls (ClassData.mk "Vault" [.type "object"] [.ref 188,.type "object"] 187 "Vault" true [] [.ref 209,.ref 249,.ref 268] false none false)) #[none,none,some (.str "Vault" 375),some (.str "Vault" 383),some (.builtin "object.__new__"),some (.bool true)])::
(nat_lit 189,.mk (.type "getset_descriptor") none (.fields #[.str "__dict__" 422,.ref 188,.builtin "function.__dict__",.builtin "function.__dict__#set"]) #[])::
(nat_lit 190,.mk (.type "getset_descriptor") none (.fields #[.str "__weakref__" 424,.ref 188,.builtin "ExceptionGroup.__weakref__",.none]) #[])::
(nat_lit 193,tO #[.ref 188])::
(nat_lit 200,tO #[])::
(nat_lit 202,tO #[.str "self" 444])::
(nat_lit 203,tO #[])::
(nat_lit 205,cO "things" 441 "Keeper.things" 442 443 112 1 0 0 3 200 true 201 .none (.ref 202) (.ref 203) (.ref 204) 445 112 446)::
(nat_lit 206,f1 "things" "Keeper.things" (L2.inClass (Pv.top 25) 0) "papervault.vaults" 367 205)::
(nat_lit 207,tO #[])::
(nat_lit 208,dO #[dE P "__module__" 436 (.str "papervault.vaults" 367),dE P "__firstlineno__" 440 (.int 110 439),dE P "things" 447 (.ref 206),dE P "__static_attributes__" 448 (.ref 207),dE P "__doc__" 449 .none] 2)::
(nat_lit 209,.mk (.type "type") none (.cls (ClassData.mk "Keeper" [.ref 188] [.ref 209,.ref 188,.type "object"] 208 "Keeper" true [] [] false none false)) #[some (.ref 193),none,some (.str "Keeper" 429),some (.str "Keeper" 437),some (.builtin "object.__new__"),some (.bool true)])::
(nat_lit 212,tO #[.ref 188])::
(nat_lit 219,tO #[])::
(nat_lit 221,tO #[.str "self" 467,.str "keeper" 468])::
(nat_lit 222,tO #[])::
(nat_lit 224,cO "__init__" 464 "Reader.__init__" 465 466 116 2 0 0 3 219 true 220 .none (.ref 221) (.ref 222) (.ref 223) 469 116 470)::
(nat_lit 225,f1 "__init__" "Reader.__init__" (L2.inClass (Pv.top 26) 0) "papervault.vaults" 367 224)::
(nat_lit 226,tO #[])::
(nat_lit 228,tO #[.str "self" 475,.str "thing" 476,.str "number" 477])::
(nat_lit 229,tO #[])::
(nat_lit 231,cO "lay" 472 "Reader.lay" 473 474 121 2 0 0 3 226 true 227 .none (.ref 228) (.ref 229) (.ref 230) 478 121 479)::
(nat_lit 232,f1 "lay" "Reader.lay" (L2.inClass (Pv.top 26) 1) "papervault.vaults" 367 231)::
(nat_lit 233,tO #[])::
(nat_lit 235,tO #[.str "self" 484,.str "number" 485,.str "read" 486])::
(nat_lit 236,tO #[])::
(nat_lit 238,cO "thing" 481 "Reader.thing" 482 483 128 2 0 0 3 233 true 234 .none (.ref 235) (.ref 236) (.ref 237) 487 128 488)::
(nat_lit 239,f1 "thing" "Reader.thing" (L2.inClass (Pv.top 26) 2) "papervault.vaults" 367 238)::
(nat_lit 240,tO #[])::
(nat_lit 242,tO #[.str "self" 493])::
(nat_lit 243,tO #[])::
(nat_lit 245,cO "paper" 490 "Reader.paper" 491 492 135 1 0 0 3 240 true 241 .none (.ref 242) (.ref 243) (.ref 244) 494 135 495)::
(nat_lit 246,f1 "paper" "Reader.paper" (L2.inClass (Pv.top 26) 3) "papervault.vaults" 367 245)::
(nat_lit 247,tO #[.str "keeper" 497,.str "noted" 498])::
(nat_lit 248,dO #[dE P "__module__" 459 (.str "papervault.vaults" 367),dE P "__firstlineno__" 463 (.int 114 462),dE P "__init__" 471 (.ref 225),dE P "lay" 480 (.ref 232),dE P "thing" 489 (.ref 239),dE P "paper" 496 (.ref 246),dE P "__static_attributes__" 499 (.ref 247),dE P "__doc__" 500 .none] 2)::
(nat_lit 249,.mk (.type "type") none (.cls (ClassData.mk "Reader" [.ref 188] [.ref 249,.ref 188,.type "object"] 248 "Reader" true [] [] false none false)) #[some (.ref 212),none,some (.str "Reader" 452),some (.str "Reader" 460),some (.builtin "object.__new__"),some (.bool true)])::
(nat_lit 252,tO #[.ref 188])::
(nat_lit 259,tO #[])::
(nat_lit 261,tO #[.str "self" 518,.str "paper" 519,.str "thing" 520])::
(nat_lit 262,tO #[])::
(nat_lit 264,cO "__init__" 515 "Witness.__init__" 516 517 139 2 0 0 3 259 true 260 .none (.ref 261) (.ref 262) (.ref 263) 521 139 522)::
(nat_lit 265,f1 "__init__" "Witness.__init__" (L2.inClass (Pv.top 27) 0) "papervault.vaults" 367 264)::
(nat_lit 266,tO #[])::
(nat_lit 267,dO #[dE P "__module__" 510 (.str "papervault.vaults" 367),dE P "__firstlineno__" 514 (.int 137 513),dE P "__init__" 523 (.ref 265),dE P "__static_attributes__" 524 (.ref 266),dE P "__doc__" 525 .none] 2)::
(nat_lit 268,.mk (.type "type") none (.cls (ClassData.mk "Witness" [.ref 188] [.ref 268,.ref 188,.type "object"] 267 "Witness" true [] [] false none false)) #[some (.ref 252),none,some (.str "Witness" 503),some (.str "Witness" 511),some (.builtin "object.__new__"),some (.bool true)])::
(nat_lit 271,tO #[])::
(nat_lit 273,tO #[.str "keeper" 533,.str "root" 534,.str "ask" 535,.str "reader" 536,.str "answer" 537])::
(nat_lit 274,tO #[])::
(nat_lit 276,cO "answer_with_paper" 530 "answer_with_paper" 531 532 146 3 0 0 3 271 true 272 .none (.ref 273) (.ref 274) (.ref 275) 538 146 539)::
(nat_lit 277,f1 "answer_with_paper" "answer_with_paper" (Pv.top 29) "papervault.papers" 528 276)::
(nat_lit 278,tO #[])::
(nat_lit 280,tO #[.str "root" 544,.str "ask" 545,.str "paper" 546])::
(nat_lit 281,tO #[])::
(nat_lit 283,cO "checked" 541 "checked" 542 543 150 3 0 0 3 278 true 279 .none (.ref 280) (.ref 281) (.ref 282) 547 150 548)::
(nat_lit 284,f1 "checked" "checked" (Pv.top 30) "papervault.papers" 528 283)::
(nat_lit 285,tO #[])::
(nat_lit 287,tO #[.str "keeper" 555,.str "number" 556,.str "thing" 557])::
(nat_lit 288,tO #[])::
(nat_lit 290,cO "clashes_with" 552 "clashes_with" 553 554 153 3 0 0 3 285 true 286 .none (.ref 287) (.ref 288) (.ref 289) 558 153 559)::
(nat_lit 291,f1 "clashes_with" "clashes_with" (Pv.top 32) "papervault.clashes" 550 290)::
(nat_lit 292,tO #[])::
(nat_lit 294,tO #[.str "paper" 564,.str "keeper" 565,.str "clashing" 566,.str "thing" 567,.str "number" 568,.str "lowest" 569])::
(nat_lit 295,tO #[])::
(nat_lit 297,cO "clash_of" 561 "clash_of" 562 563 158 2 0 0 3 292 true 293 .none (.ref 294) (.ref 295) (.ref 296) 570 158 571)::
(nat_lit 298,f1 "clash_of" "clash_of" (Pv.top 33) "papervault.clashes" 550 297)::
(nat_lit 299,tO #[])::
(nat_lit 301,tO #[.str "root" 576,.str "ask" 577,.str "paper" 578,.str "keeper" 579,.str "told" 580])::
(nat_lit 302,tO #[])::
(nat_lit 304,cO "shown" 573 "shown" 574 575 169 4 0 0 3 299 true 300 .none (.ref 301) (.ref 302) (.ref 303) 581 169 582)::
(nat_lit 305,f1 "shown" "shown" (Pv.top 34) "papervault.clashes" 550 304)::
(nat_lit 306,tO #[])::
(nat_lit 308,tO #[.str "vault" 603,.str "root" 604,.str "count" 605,.str "node" 606])::
(nat_lit 309,tO #[])::
(nat_lit 311,cO "node_beneath" 600 "node_beneath" 601 602 190 3 0 0 3 306 true 307 .none (.ref 308) (.ref 309) (.ref 310) 607 190 608)::
(nat_lit 312,f1 "node_beneath" "node_beneath" (Pv.top 43) "papervault.nodes" 584 311)::
(nat_lit 313,tO #[])::
(nat_lit 315,tO #[.str "thing" 613])::
(nat_lit 316,tO #[])::
(nat_lit 318,cO "is_node" 610 "is_node" 611 612 195 1 0 0 3 313 true 314 .none (.ref 315) (.ref 316) (.ref 317) 614 195 615)::
(nat_lit 319,f1 "is_node" "is_node" (Pv.top 44) "papervault.nodes" 584 318)::
(nat_lit 320,tO #[])::
(nat_lit 322,tO #[.str "thing" 620])::
(nat_lit 323,tO #[])::
(nat_lit 325,cO "is_root" 617 "is_root" 618 619 203 1 0 0 3 320 true 321 .none (.ref 322) (.ref 323) (.ref 324) 621 203 622)::
(nat_lit 326,f1 "is_root" "is_root" (Pv.top 45) "papervault.nodes" 584 325)::
(nat_lit 327,tO #[])::
(nat_lit 329,tO #[.str "key" 627])::
(nat_lit 330,tO #[])::
(nat_lit 332,cO "rank" 624 "rank" 625 626 205 1 0 0 3 327 true 328 .none (.ref 329) (.ref 330) (.ref 331) 628 205 629)::
(nat_lit 333,f1 "rank" "rank" (Pv.top 46) "papervault.nodes" 584 332)::
(nat_lit 334,tO #[])::
(nat_lit 336,tO #[.str "key" 634,.str "other" 635,.str "mine" 636,.str "its" 637])::
(nat_lit 337,tO #[])::
(nat_lit 339,cO "above" 631 "above" 632 633 207 2 0 0 3 334 true 335 .none (.ref 336) (.ref 337) (.ref 338) 638 207 639)::
(nat_lit 340,f1 "above" "above" (Pv.top 47) "papervault.nodes" 584 339)::
(nat_lit 341,tO #[])::
(nat_lit 343,tO #[.str "node" 646,.str "key" 647])::
(nat_lit 344,tO #[])::
(nat_lit 346,cO "side_of" 643 "side_of" 644 645 214 2 0 0 3 341 true 342 .none (.ref 343) (.ref 344) (.ref 345) 648 214 649)::
(nat_lit 347,f1 "side_of" "side_of" (Pv.top 49) "papervault.trees" 641 346)::
(nat_lit 348,tO #[])::
(nat_lit 350,tO #[.str "vault" 654,.str "root" 655,.str "key" 656,.str "way" 657,.str "count" 658,.str "node" 659])::
(nat_lit 351,tO #[])::
(nat_lit 353,cO "way_to" 651 "way_to" 652 653 216 3 0 0 3 348 true 349 .none (.ref 350) (.ref 351) (.ref 352) 660 216 661)::
(nat_lit 354,f1 "way_to" "way_to" (Pv.top 50) "papervault.trees" 641 353)::
(nat_lit 355,tO #[])::
(nat_lit 357,tO #[.str "way" 666,.str "key" 667])::
(nat_lit 358,tO #[])::
(nat_lit 360,cO "ends_at" 663 "ends_at" 664 665 227 2 0 0 3 355 true 356 .none (.ref 357) (.ref 358) (.ref 359) 668 227 669)::
(nat_lit 361,f1 "ends_at" "ends_at" (Pv.top 51) "papervault.trees" 641 360)::
(nat_lit 362,tO #[])::
(nat_lit 364,tO #[.str "node" 674,.str "side" 675,.str "root" 676,.str "count" 677])::
(nat_lit 365,tO #[])::
(nat_lit 367,cO "with_tree" 671 "with_tree" 672 673 229 4 0 0 3 362 true 363 .none (.ref 364) (.ref 365) (.ref 366) 678 229 679)::
(nat_lit 368,f1 "with_tree" "with_tree" (Pv.top 52) "papervault.trees" 641 367)::
(nat_lit 369,tO #[])::
(nat_lit 371,tO #[.str "vault" 684,.str "way" 685,.str "key" 686,.str "root" 687,.str "more" 688,.str "node" 689])::
(nat_lit 372,tO #[])::
(nat_lit 374,cO "hung" 681 "hung" 682 683 233 5 0 0 3 369 true 370 .none (.ref 371) (.ref 372) (.ref 373) 690 233 691)::
(nat_lit 375,f1 "hung" "hung" (Pv.top 53) "papervault.trees" 641 374)::
(nat_lit 376,tO #[])::
(nat_lit 378,tO #[.str "vault" 696,.str "way" 697,.str "key" 698,.str "root" 699,.str "count" 700,.str "left" 701,.str "left_count" 702,.str "right" 703,.str "right_count" 704,.str "node" 705])::
(nat_lit 379,tO #[])::
(nat_lit 381,cO "parted" 693 "parted" 694 695 237 5 0 0 3 376 true 377 .none (.ref 378) (.ref 379) (.ref 380) 706 237 707)::
(nat_lit 382,f1 "parted" "parted" (Pv.top 54) "papervault.trees" 641 381)::
(nat_lit 383,tO #[])::
(nat_lit 385,tO #[.str "way" 712,.str "key" 713,.str "number" 714,.str "node" 715])::
(nat_lit 386,tO #[])::
(nat_lit 388,cO "place_in" 709 "place_in" 710 711 250 2 0 0 3 383 true 384 .none (.ref 385) (.ref 386) (.ref 387) 716 250 717)::
(nat_lit 389,f1 "place_in" "place_in" (Pv.top 55) "papervault.trees" 641 388)::
(nat_lit 390,tO #[])::
(nat_lit 392,tO #[.str "vault" 722,.str "root" 723,.str "key" 724,.str "worth" 725,.str "way" 726,.str "own" 727,.str "new" 728,.str "place" 729,.str "trees" 730,.str "count" 731])::
(nat_lit 393,tO #[])::
(nat_lit 395,cO "put" 719 "put" 720 721 255 4 0 0 3 390 true 391 .none (.ref 392) (.ref 393) (.ref 394) 732 255 733)::
(nat_lit 396,f1 "put" "put" (Pv.top 56) "papervault.trees" 641 395)::
(nat_lit 397,tO #[])::
(nat_lit 399,tO #[.str "vault" 738,.str "root" 739,.str "key" 740,.str "way" 741,.str "own" 742])::
(nat_lit 400,tO #[])::
(nat_lit 402,cO "cut" 735 "cut" 736 737 266 3 0 0 3 397 true 398 .none (.ref 399) (.ref 400) (.ref 401) 743 266 744)::
(nat_lit 403,f1 "cut" "cut" (Pv.top 57) "papervault.trees" 641 402)::
(nat_lit 404,tO #[])::
(nat_lit 406,tO #[.str "vault" 749,.str "left" 750,.str "right" 751,.str "count" 752,.str "left_count" 753,.str "right_count" 754,.str "down" 755,.str "one" 756,.str "other" 757,.str "both" 758,.str "root" 759,.str "step" 760])::
(nat_lit 407,tO #[])::
(nat_lit 409,cO "joined" 746 "joined" 747 748 272 4 0 0 3 404 true 405 .none (.ref 406) (.ref 407) (.ref 408) 761 272 762)::
(nat_lit 410,f1 "joined" "joined" (Pv.top 58) "papervault.trees" 641 409)::
(nat_lit 418,tO #[])::
(nat_lit 420,tO #[.str "self" 781,.str "vault" 782,.str "root" 783])::
(nat_lit 421,tO #[])::
(nat_lit 423,cO "answer" 778 "Ask.answer" 779 780 295 3 0 0 3 418 true 419 .none (.ref 420) (.ref 421) (.ref 422) 784 295 785)::
(nat_lit 424,f1 "answer" "Ask.answer" (L2.inClass (Pv.top 60) 0) "papervault.asks" 764 423)::
(nat_lit 425,tO #[])::
(nat_lit 426,dO #[dE P "__module__" 773 (.str "papervault.asks" 764),dE P "__firstlineno__" 777 (.int 293 776),dE P "answer" 786 (.ref 424),dE P "__static_attributes__" 787 (.ref 425),dE P "__dict__" 789 (.ref 428),dE P "__weakref__" 791 (.ref 429),dE P "__doc__" 792 .none] 4)::
(nat_lit 427,.mk (.type "type") none (.cls (ClassData.mk "Ask" [.type "object"] [.ref 427,.type "object"] 426 "Ask" true [] [.ref 455] false none false)) #[none,none,some (.str "Ask" 766),some (.str "Ask" 774),some (.builtin "object.__new__"),some (.bool true)])::
(nat_lit 428,.mk (.type "getset_descriptor") none (.fields #[.str "__dict__" 788,.ref 427,.builtin "function.__dict__",.builtin "function.__dict__#set"]) #[])::
(nat_lit 429,.mk (.type "getset_descriptor") none (.fields #[.str "__weakref__" 790,.ref 427,.builtin "ExceptionGroup.__weakref__",.none]) #[])::
(nat_lit 432,tO #[.ref 427])::
(nat_lit 439,tO #[])::
(nat_lit 441,tO #[.str "self" 810,.str "key" 811,.str "worth" 812])::
(nat_lit 442,tO #[])::
(nat_lit 444,cO "__init__" 807 "Put.__init__" 808 809 299 3 0 0 3 439 true 440 .none (.ref 441) (.ref 442) (.ref 443) 813 299 814)::
(nat_lit 445,f1 "__init__" "Put.__init__" (L2.inClass (Pv.top 61) 0) "papervault.asks" 764 444)::
(nat_lit 446,tO #[])::
(nat_lit 448,tO #[.str "self" 819,.str "vault" 820,.str "root" 821])::
(nat_lit 449,tO #[])::
(nat_lit 451,cO "answer" 816 "Put.answer" 817 818 303 3 0 0 3 446 true 447 .none (.ref 448) (.ref 449) (.ref 450) 822 303 823)::
(nat_lit 452,f1 "answer" "Put.answer" (L2.inClass (Pv.top 61) 1) "papervault.asks" 764 451)::
(nat_lit 453,tO #[.str "key" 825,.str "worth" 826])::
(nat_lit 454,dO #[dE P "__module__" 802 (.str "papervault.asks" 764),dE P "__firstlineno__" 806 (.int 297 805),dE P "__init__" 815 (.ref 445),dE P "answer" 824 (.ref 452),dE P "__static_attributes__" 827 (.ref 453),dE P "__doc__" 828 .none] 2)::
(nat_lit 455,.mk (.type "type") none (.cls (ClassData.mk "Put" [.ref 427] [.ref 455,.ref 427,.type "object"] 454 "Put" true [] [] false none false)) #[some (.ref 432),none,some (.str "Put" 795),some (.str "Put" 803),some (.builtin "object.__new__"),some (.bool true)])::
(nat_lit 458,tO #[])::
(nat_lit 460,tO #[.str "script" 836,.str "k" 837])::
(nat_lit 461,tO #[])::
(nat_lit 463,cO "_law_cell_at" 833 "_law_cell_at" 834 835 306 2 0 0 3 458 true 459 .none (.ref 460) (.ref 461) (.ref 462) 838 306 839)::
(nat_lit 464,f1 "_law_cell_at" "_law_cell_at" (Pv.top 63) "law_papervault_k50_shown_where_the_keeper_fa" 831 463)::
(nat_lit 465,tO #[])::
(nat_lit 467,tO #[.str "cell" 844,.str "many" 845,.str "numbers" 846,.str "rest" 847,.str "mixed" 848,.str "k" 849])::
(nat_lit 468,tO #[])::
(nat_lit 470,cO "_law_turned" 841 "_law_turned" 842 843 310 2 0 0 3 465 true 466 .none (.ref 467) (.ref 468) (.ref 469) 850 310 851)::
(nat_lit 471,f1 "_law_turned" "_law_turned" (Pv.top 64) "law_papervault_k50_shown_where_the_keeper_fa" 831 470)::
(nat_lit 472,tO #[])::
(nat_lit 474,tO #[.str "number" 856,.str "twin" 857])::
(nat_lit 475,tO #[])::
(nat_lit 477,cO "_law_key" 853 "_law_key" 854 855 322 2 0 0 3 472 true 473 .none (.ref 474) (.ref 475) (.ref 476) 858 322 859)::
(nat_lit 478,f1 "_law_key" "_law_key" (Pv.top 65) "law_papervault_k50_shown_where_the_keeper_fa" 831 477)::
(nat_lit 479,tO #[])::
(nat_lit 481,tO #[.str "number" 864,.str "twin" 865])::
(nat_lit 482,tO #[])::
(nat_lit 484,cO "_law_worth" 861 "_law_worth" 862 863 328 2 0 0 3 479 true 480 .none (.ref 481) (.ref 482) (.ref 483) 866 328 867)::
(nat_lit 485,f1 "_law_worth" "_law_worth" (Pv.top 66) "law_papervault_k50_shown_where_the_keeper_fa" 831 484)::
(nat_lit 498,tO #[])::
(nat_lit 500,tO #[.str "keeper" 886,.str "pairs" 887,.str "numbers" 888,.str "twin" 889,.str "root" 890,.str "k" 891,.str "key" 892])::
(nat_lit 501,tO #[])::
(nat_lit 503,cO "_law_grown" 883 "_law_grown" 884 885 343 4 0 0 3 498 true 499 .none (.ref 500) (.ref 501) (.ref 502) 893 343 894)::
(nat_lit 504,f1 "_law_grown" "_law_grown" (Pv.top 69) "law_papervault_k50_shown_where_the_keeper_fa" 831 503)::
(nat_lit 512,tO #[])::
(nat_lit 515,cO "_law_twinned" 907 "_law_twinned" 908 909 360 1 0 0 3 512 true 513 .none .none .none (.ref 514) 910 360 911)::
(nat_lit 516,f1 "_law_twinned" "_law_twinned" (Pv.top 71) "law_papervault_k50_shown_where_the_keeper_fa" 831 515)::
(nat_lit 517,tO #[])::
(nat_lit 519,tO #[.str "keeper" 916,.str "other" 917,.str "one" 918])::
(nat_lit 520,tO #[])::
(nat_lit 522,cO "_law_copy" 913 "_law_copy" 914 915 368 1 0 0 3 517 true 518 .none (.ref 519) (.ref 520) (.ref 521) 919 368 920)::
(nat_lit 523,f1 "_law_copy" "_law_copy" (Pv.top 72) "law_papervault_k50_shown_where_the_keeper_fa" 831 522)::
(nat_lit 524,tO #[])::
(nat_lit 527,cO "_law_one" 922 "_law_one" 923 924 373 4 0 0 3 524 true 525 .none .none .none (.ref 526) 925 373 926)::
(nat_lit 528,f1 "_law_one" "_law_one" (Pv.top 73) "law_papervault_k50_shown_where_the_keeper_fa" 831 527)::
(nat_lit 529,tO #[])::
(nat_lit 531,tO #[.str "script" 931,.str "twin" 932,.str "keeper" 933,.str "root" 934,.str "cell" 935])::
(nat_lit 532,tO #[])::
(nat_lit 534,cO "_law_holds" 928 "_law_holds" 929 930 393 1 0 0 3 529 true 530 .none (.ref 531) (.ref 532) (.ref 533) 936 393 937)::
(nat_lit 535,f1 "_law_holds" "_law_holds" (Pv.top 74) "law_papervault_k50_shown_where_the_keeper_fa" 831 534)::
(nat_lit 536,tO #[])::
(nat_lit 538,tO #[.str "script" 942,.str "told" 943,.str "clash" 944,.str "e" 945])::
(nat_lit 539,tO #[])::
(nat_lit 541,cO "law" 939 "law" 940 941 401 1 0 0 3 536 true 537 .none (.ref 538) (.ref 539) (.ref 540) 946 401 947)::
(nat_lit 542,f1 "law" "law" (Pv.top 75) "law_papervault_k50_shown_where_the_keeper_fa" 831 541)::
[]
noncomputable def KA:List Addr:=rgs [(2,2),(15,1),(22,4),(28,1),(35,3),(40,1),(47,3),(52,1),(59,1),(61,2),(64,5),(71,1),(73,2),(76,3),(81,3),(85,2),(88,3),(92,2),(95,3),(99,2),(102,3),(106,2),(109,3),(113,2),(116,3),(120,2),(123,3),(127,2),(130,3),(134,2),(137,3),(141,2),(144,3),(149,2),(158,1),(160,2),(163,3),(167,2),(170,3),(174,2),(177,3),(181,2),(184,7),(193,1),(200,1),(202,2),(205,5),(212,1),(219,1),(221,2),(224,3),(228,2),(231,3),(235,2),(238,3),(242,2),(245,5),(252,1),(259,1),(261,2),(264,5),(271,1),(273,2),(276,3),(280,2),(283,3),(287,2),(290,3),(294,2),(297,3),(301,2),(304,3),(308,2),(311,3),(315,2),(318,3),(322,2),(325,3),(329,2),(332,3),(336,2),(339,3),(343,2),(346,3),(350,2),(353,3),(357,2),(360,3),(364,2),(367,3),(371,2),(374,3),(378,2),(381,3),(385,2),(388,3),(392,2),(395,3),(399,2),(402,3),(406,2),(409,2),(418,1),(420,2),(423,7),(432,1),(439,1),(441,2),(444,3),(448,2),(451,5),(458,1),(460,2),(463,3),(467,2),(470,3),(474,2),(477,3),(481,2),(484,2),(498,1),(500,2),(503,2),(512,1),(515,3),(519,2),(522,3),(527,3),(531,2),(534,3),(538,2),(541,2)]
variable (P:Params)
def OL:List Obj:=[boot_o_0 P,
boot_o_1 P,
boot_o_4 P,
boot_o_5 P,
boot_o_6 P,
boot_o_7 P,
boot_o_8 P,
boot_o_9 P,
boot_o_10 P,
boot_o_7 P,
.mk .none none (.fields #[.int 2 0,.int 0 0,.ref 20,.int 4 0,.int 0 0,.ref 33,.int 6 0,.int 0 0,.ref 45,.int 8 0,.int 0 0,.ref 57,.int 14 0,.int 0 0,.ref 76,.int 19 0,.int 0 0,.ref 81,.int 32 0,.int 0 0,.ref 88,.int 42 0,.int 0 0,.ref 95,.int 44 0,.int 0 0,.ref 102,.int 46 0,.int 0 0,.ref 109,.int 54 0,.int 0 0,.ref 116,.int 61 0,.int 0 0,.ref 123,.int 66 0,.int 0 0,.ref 130,.int 74 0,.int 0 0,.ref 137,.int 83 0,.int 0 0,.ref 144,.int 89 0,.int 0 0,.ref 149,.int 91 0,.int 0 0,.ref 156,.int 110 0,.int 0 0,.ref 198,.int 114 0,.int 0 0,.ref 217,.int 137 0,.int 0 0,.ref 257,.int 146 0,.int 0 0,.ref 276,.int 150 0,.int 0 0,.ref 283,.int 153 0,.int 0 0,.ref 290,.int 158 0,.int 0 0,.ref 297,.int 169 0,.int 0 0,.ref 304,.int 190 0,.int 0 0,.ref 311,.int 195 0,.int 0 0,.ref 318,.int 203 0,.int 0 0,.ref 325,.int 205 0,.int 0 0,.ref 332,.int 207 0,.int 0 0,.ref 339,.int 214 0,.int 0 0,.ref 346,.int 216 0,.int 0 0,.ref 353,.int 227 0,.int 0 0,.ref 360,.int 229 0,.int 0 0,.ref 367,.int 233 0,.int 0 0,.ref 374,.int 237 0,.int 0 0,.ref 381,.int 250 0,.int 0 0,.ref 388,.int 255 0,.int 0 0,.ref 395,.int 266 0,.int 0 0,.ref 402,.int 272 0,.int 0 0,.ref 409,.int 293 0,.int 0 0,.ref 416,.int 297 0,.int 0 0,.ref 437,.int 306 0,.int 0 0,.ref 463,.int 310 0,.int 0 0,.ref 470,.int 322 0,.int 0 0,.ref 477,.int 328 0,.int 0 0,.ref 484,.int 336 0,.int 0 0,.ref 489,.int 339 0,.int 0 0,.ref 496,.int 343 0,.int 0 0,.ref 503,.int 354 0,.int 0 0,.ref 510,.int 360 0,.int 0 0,.ref 515,.int 368 0,.int 0 0,.ref 522,.int 373 0,.int 0 0,.ref 527,.int 393 0,.int 0 0,.ref 534,.int 401 0,.int 0 0,.ref 541]) #[],
cO "<module>" 182 "<module>" 183 184 1 0 0 0 0 11 false 12 .none .none .none .none 185 1 186,
.mk (.type "frame") none .plain #[some (.ref 13),some (.ref 3),some (.ref 3),none,some (.str "__main__" 164),none,some (.ref 0)],
.mk (.type "builtin_function_or_method") none (.fields #[.builtin "type.__prepare__",.type "type"]) #[],
dO #[dE P "__module__" 196 (.str "papervault.errors" 187),dE P "__qualname__" 198 (.str "VaultError" 197),dE P "__firstlineno__" 200 (.int 2 199),dE P "__static_attributes__" 201 (.ref 22)] 4,
boot_o_7 P,
boot_o_8 P,
cO "VaultError" 191 "VaultError" 192 193 2 0 0 0 0 18 false 19 .none .none .none .none 194 2 195,
.mk (.type "frame") none .plain #[some (.ref 20),some (.ref 3),some (.ref 17),none,some (.str "papervault.errors" 187),none,some (.ref 0)],
.mk (.type "super") none (.fields #[.ref 24,.ref 24,.ref 24]) #[],
.mk (.type "builtin_function_or_method") none (.fields #[.builtin "object.__init_subclass__",.ref 24]) #[],
.mk (.type "builtin_function_or_method") none (.fields #[.builtin "type.__prepare__",.type "type"]) #[],
dO #[dE P "__module__" 214 (.str "papervault.errors" 187),dE P "__qualname__" 216 (.str "NoPaper" 215),dE P "__firstlineno__" 218 (.int 4 217),dE P "__static_attributes__" 219 (.ref 35)] 4,
boot_o_7 P,
boot_o_8 P,
cO "NoPaper" 209 "NoPaper" 210 211 4 0 0 0 0 31 false 32 .none .none .none .none 212 4 213,
.mk (.type "frame") none .plain #[some (.ref 33),some (.ref 3),some (.ref 30),none,some (.str "papervault.errors" 187),none,some (.ref 0)],
.mk (.type "super") none (.fields #[.ref 37,.ref 37,.ref 37]) #[],
.mk (.type "builtin_function_or_method") none (.fields #[.builtin "object.__init_subclass__",.ref 37]) #[],
.mk (.type "builtin_function_or_method") none (.fields #[.builtin "type.__prepare__",.type "type"]) #[],
dO #[dE P "__module__" 230 (.str "papervault.errors" 187),dE P "__qualname__" 232 (.str "BadThing" 231),dE P "__firstlineno__" 234 (.int 6 233),dE P "__static_attributes__" 235 (.ref 47)] 4,
boot_o_7 P,
boot_o_8 P,
cO "BadThing" 225 "BadThing" 226 227 6 0 0 0 0 43 false 44 .none .none .none .none 228 6 229,
.mk (.type "frame") none .plain #[some (.ref 45),some (.ref 3),some (.ref 42),none,some (.str "papervault.errors" 187),none,some (.ref 0)],
.mk (.type "super") none (.fields #[.ref 49,.ref 49,.ref 49]) #[],
.mk (.type "builtin_function_or_method") none (.fields #[.builtin "object.__init_subclass__",.ref 49]) #[],
.mk (.type "builtin_function_or_method") none (.fields #[.builtin "type.__prepare__",.type "type"]) #[],
dO #[dE P "__module__" 246 (.str "papervault.errors" 187),dE P "__qualname__" 248 (.str "Clash" 247),dE P "__firstlineno__" 250 (.int 8 249),dE P "__init__" 259 (.ref 65),dE P "__static_attributes__" 262 (.ref 66)] 5,
boot_o_7 P,
.mk .none none (.fields #[.int 10 0,.int 4 0,.ref 64]) #[],
cO "Clash" 241 "Clash" 242 243 8 0 0 0 0 55 false 56 .none .none .none .none 244 8 245,
.mk (.type "frame") none .plain #[some (.ref 57),some (.ref 3),some (.ref 54),none,some (.str "papervault.errors" 187),none,some (.ref 0)],
boot_o_8 P,
f0 "__init__" "Clash.__init__" (L2.inClass (Pv.top 4) 0),
.mk (.type "super") none (.fields #[.ref 68,.ref 68,.ref 68]) #[],
.mk (.type "builtin_function_or_method") none (.fields #[.builtin "object.__init_subclass__",.ref 68]) #[],
boot_o_8 P,
f0 "seal" "seal" (Pv.top 6),
boot_o_8 P,
f0 "codes" "codes" (Pv.top 7),
boot_o_8 P,
f0 "number_of" "number_of" (Pv.top 8),
boot_o_8 P,
f0 "is_whole" "is_whole" (Pv.top 14),
boot_o_8 P,
f0 "is_thing" "is_thing" (Pv.top 15),
boot_o_8 P,
f0 "is_thing_within" "is_thing_within" (Pv.top 16),
boot_o_8 P,
f0 "is_tuple_within" "is_tuple_within" (Pv.top 17),
boot_o_8 P,
f0 "has_signs_of_things" "has_signs_of_things" (Pv.top 18),
boot_o_8 P,
f0 "kind_of" "kind_of" (Pv.top 19),
boot_o_8 P,
f0 "ahead" "ahead" (Pv.top 20),
boot_o_8 P,
f0 "is_tuple_ahead" "is_tuple_ahead" (Pv.top 21),
boot_o_8 P,
f0 "rising" "rising" (Pv.top 23),
boot_o_7 P,
.mk (.type "builtin_function_or_method") none (.fields #[.builtin "type.__prepare__",.type "type"]) #[],
dO #[dE P "__module__" 382 (.str "papervault.vaults" 367),dE P "__qualname__" 384 (.str "Vault" 383),dE P "__firstlineno__" 386 (.int 91 385),dE P "__init__" 393 (.ref 164),dE P "refuse_clash" 402 (.ref 171),dE P "lay" 411 (.ref 178),dE P "thing" 419 (.ref 185),dE P "__static_attributes__" 421 (.ref 186)] 8,
boot_o_7 P,
.mk .none none (.fields #[.int 93 0,.int 4 0,.ref 163,.int 96 0,.int 4 0,.ref 170,.int 100 0,.int 4 0,.ref 177,.int 106 0,.int 4 0,.ref 184]) #[],
cO "Vault" 377 "Vault" 378 379 91 0 0 0 0 154 false 155 .none .none .none .none 380 91 381,
.mk (.type "frame") none .plain #[some (.ref 156),some (.ref 3),some (.ref 153),none,some (.str "papervault.vaults" 367),none,some (.ref 0)],
boot_o_8 P,
f0 "__init__" "Vault.__init__" (L2.inClass (Pv.top 24) 0),
boot_o_8 P,
f0 "refuse_clash" "Vault.refuse_clash" (L2.inClass (Pv.top 24) 1),
boot_o_8 P,
f0 "lay" "Vault.lay" (L2.inClass (Pv.top 24) 2),
boot_o_8 P,
f0 "thing" "Vault.thing" (L2.inClass (Pv.top 24) 3),
.mk (.type "super") none (.fields #[.ref 188,.ref 188,.ref 188]) #[],
.mk (.type "builtin_function_or_method") none (.fields #[.builtin "object.__init_subclass__",.ref 188]) #[],
.mk (.type "builtin_function_or_method") none (.fields #[.builtin "type.__prepare__",.type "type"]) #[],
dO #[dE P "__module__" 436 (.str "papervault.vaults" 367),dE P "__qualname__" 438 (.str "Keeper" 437),dE P "__firstlineno__" 440 (.int 110 439),dE P "things" 447 (.ref 206),dE P "__static_attributes__" 448 (.ref 207)] 5,
boot_o_7 P,
.mk .none none (.fields #[.int 112 0,.int 4 0,.ref 205]) #[],
cO "Keeper" 431 "Keeper" 432 433 110 0 0 0 0 196 false 197 .none .none .none .none 434 110 435,
.mk (.type "frame") none .plain #[some (.ref 198),some (.ref 3),some (.ref 195),none,some (.str "papervault.vaults" 367),none,some (.ref 0)],
boot_o_8 P,
f0 "things" "Keeper.things" (L2.inClass (Pv.top 25) 0),
.mk (.type "super") none (.fields #[.ref 209,.ref 209,.ref 209]) #[],
.mk (.type "builtin_function_or_method") none (.fields #[.builtin "object.__init_subclass__",.ref 209]) #[],
.mk (.type "builtin_function_or_method") none (.fields #[.builtin "type.__prepare__",.type "type"]) #[],
dO #[dE P "__module__" 459 (.str "papervault.vaults" 367),dE P "__qualname__" 461 (.str "Reader" 460),dE P "__firstlineno__" 463 (.int 114 462),dE P "__init__" 471 (.ref 225),dE P "lay" 480 (.ref 232),dE P "thing" 489 (.ref 239),dE P "paper" 496 (.ref 246),dE P "__static_attributes__" 499 (.ref 247)] 8,
boot_o_7 P,
.mk .none none (.fields #[.int 116 0,.int 4 0,.ref 224,.int 121 0,.int 4 0,.ref 231,.int 128 0,.int 4 0,.ref 238,.int 135 0,.int 4 0,.ref 245]) #[],
cO "Reader" 454 "Reader" 455 456 114 0 0 0 0 215 false 216 .none .none .none .none 457 114 458,
.mk (.type "frame") none .plain #[some (.ref 217),some (.ref 3),some (.ref 214),none,some (.str "papervault.vaults" 367),none,some (.ref 0)],
boot_o_8 P,
f0 "__init__" "Reader.__init__" (L2.inClass (Pv.top 26) 0),
boot_o_8 P,
f0 "lay" "Reader.lay" (L2.inClass (Pv.top 26) 1),
boot_o_8 P,
f0 "thing" "Reader.thing" (L2.inClass (Pv.top 26) 2),
boot_o_8 P,
f0 "paper" "Reader.paper" (L2.inClass (Pv.top 26) 3),
.mk (.type "super") none (.fields #[.ref 249,.ref 249,.ref 249]) #[],
.mk (.type "builtin_function_or_method") none (.fields #[.builtin "object.__init_subclass__",.ref 249]) #[],
.mk (.type "builtin_function_or_method") none (.fields #[.builtin "type.__prepare__",.type "type"]) #[],
dO #[dE P "__module__" 510 (.str "papervault.vaults" 367),dE P "__qualname__" 512 (.str "Witness" 511),dE P "__firstlineno__" 514 (.int 137 513),dE P "__init__" 523 (.ref 265),dE P "__static_attributes__" 524 (.ref 266)] 5,
boot_o_7 P,
.mk .none none (.fields #[.int 139 0,.int 4 0,.ref 264]) #[],
cO "Witness" 505 "Witness" 506 507 137 0 0 0 0 255 false 256 .none .none .none .none 508 137 509,
.mk (.type "frame") none .plain #[some (.ref 257),some (.ref 3),some (.ref 254),none,some (.str "papervault.vaults" 367),none,some (.ref 0)],
boot_o_8 P,
f0 "__init__" "Witness.__init__" (L2.inClass (Pv.top 27) 0),
.mk (.type "super") none (.fields #[.ref 268,.ref 268,.ref 268]) #[],
.mk (.type "builtin_function_or_method") none (.fields #[.builtin "object.__init_subclass__",.ref 268]) #[],
boot_o_8 P,
f0 "answer_with_paper" "answer_with_paper" (Pv.top 29),
boot_o_8 P,
f0 "checked" "checked" (Pv.top 30),
boot_o_8 P,
f0 "clashes_with" "clashes_with" (Pv.top 32),
boot_o_8 P,
f0 "clash_of" "clash_of" (Pv.top 33),
boot_o_8 P,
f0 "shown" "shown" (Pv.top 34),
boot_o_8 P,
f0 "node_beneath" "node_beneath" (Pv.top 43),
boot_o_8 P,
f0 "is_node" "is_node" (Pv.top 44),
boot_o_8 P,
f0 "is_root" "is_root" (Pv.top 45),
boot_o_8 P,
f0 "rank" "rank" (Pv.top 46),
boot_o_8 P,
f0 "above" "above" (Pv.top 47),
boot_o_8 P,
f0 "side_of" "side_of" (Pv.top 49),
boot_o_8 P,
f0 "way_to" "way_to" (Pv.top 50),
boot_o_8 P,
f0 "ends_at" "ends_at" (Pv.top 51),
boot_o_8 P,
f0 "with_tree" "with_tree" (Pv.top 52),
boot_o_8 P,
f0 "hung" "hung" (Pv.top 53),
boot_o_8 P,
f0 "parted" "parted" (Pv.top 54),
boot_o_8 P,
f0 "place_in" "place_in" (Pv.top 55),
boot_o_8 P,
f0 "put" "put" (Pv.top 56),
boot_o_8 P,
f0 "cut" "cut" (Pv.top 57),
boot_o_8 P,
f0 "joined" "joined" (Pv.top 58),
boot_o_7 P,
.mk (.type "builtin_function_or_method") none (.fields #[.builtin "type.__prepare__",.type "type"]) #[],
dO #[dE P "__module__" 773 (.str "papervault.asks" 764),dE P "__qualname__" 775 (.str "Ask" 774),dE P "__firstlineno__" 777 (.int 293 776),dE P "answer" 786 (.ref 424),dE P "__static_attributes__" 787 (.ref 425)] 5,
boot_o_7 P,
.mk .none none (.fields #[.int 295 0,.int 4 0,.ref 423]) #[],
cO "Ask" 768 "Ask" 769 770 293 0 0 0 0 414 false 415 .none .none .none .none 771 293 772,
.mk (.type "frame") none .plain #[some (.ref 416),some (.ref 3),some (.ref 413),none,some (.str "papervault.asks" 764),none,some (.ref 0)],
boot_o_8 P,
f0 "answer" "Ask.answer" (L2.inClass (Pv.top 60) 0),
.mk (.type "super") none (.fields #[.ref 427,.ref 427,.ref 427]) #[],
.mk (.type "builtin_function_or_method") none (.fields #[.builtin "object.__init_subclass__",.ref 427]) #[],
.mk (.type "builtin_function_or_method") none (.fields #[.builtin "type.__prepare__",.type "type"]) #[],
dO #[dE P "__module__" 802 (.str "papervault.asks" 764),dE P "__qualname__" 804 (.str "Put" 803),dE P "__firstlineno__" 806 (.int 297 805),dE P "__init__" 815 (.ref 445),dE P "answer" 824 (.ref 452),dE P "__static_attributes__" 827 (.ref 453)] 6,
boot_o_7 P,
.mk .none none (.fields #[.int 299 0,.int 4 0,.ref 444,.int 303 0,.int 4 0,.ref 451]) #[],
cO "Put" 797 "Put" 798 799 297 0 0 0 0 435 false 436 .none .none .none .none 800 297 801,
.mk (.type "frame") none .plain #[some (.ref 437),some (.ref 3),some (.ref 434),none,some (.str "papervault.asks" 764),none,some (.ref 0)],
boot_o_8 P,
f0 "__init__" "Put.__init__" (L2.inClass (Pv.top 61) 0),
boot_o_8 P,
f0 "answer" "Put.answer" (L2.inClass (Pv.top 61) 1),
.mk (.type "super") none (.fields #[.ref 455,.ref 455,.ref 455]) #[],
.mk (.type "builtin_function_or_method") none (.fields #[.builtin "object.__init_subclass__",.ref 455]) #[],
boot_o_8 P,
f0 "_law_cell_at" "_law_cell_at" (Pv.top 63),
boot_o_8 P,
f0 "_law_turned" "_law_turned" (Pv.top 64),
boot_o_8 P,
f0 "_law_key" "_law_key" (Pv.top 65),
boot_o_8 P,
f0 "_law_worth" "_law_worth" (Pv.top 66),
boot_o_7 P,
boot_o_8 P,
f0 "_law_rising" "_law_rising" (Pv.top 67),
cO "_law_rising" 869 "_law_rising" 870 871 336 1 0 0 3 486 true 487 .none .none .none (.ref 488) 872 336 873,
f1 "_law_rising" "_law_rising" (Pv.top 67) "law_papervault_k50_shown_where_the_keeper_fa" 831 489,
boot_o_7 P,
boot_o_8 P,
tO #[.str "one" 878,.str "other" 879],
boot_o_7 P,
f0 "_law_before" "_law_before" (Pv.top 68),
cO "_law_before" 875 "_law_before" 876 877 339 2 0 0 3 491 true 492 .none (.ref 493) (.ref 494) (.ref 495) 880 339 881,
f1 "_law_before" "_law_before" (Pv.top 68) "law_papervault_k50_shown_where_the_keeper_fa" 831 496,
boot_o_8 P,
f0 "_law_grown" "_law_grown" (Pv.top 69),
boot_o_7 P,
boot_o_8 P,
tO #[.str "pairs" 899,.str "low" 900,.str "high" 901,.str "some" 902,.str "key" 903],
boot_o_7 P,
f0 "_law_within" "_law_within" (Pv.top 70),
cO "_law_within" 896 "_law_within" 897 898 354 3 0 0 3 505 true 506 .none (.ref 507) (.ref 508) (.ref 509) 904 354 905,
f1 "_law_within" "_law_within" (Pv.top 70) "law_papervault_k50_shown_where_the_keeper_fa" 831 510,
boot_o_8 P,
f0 "_law_twinned" "_law_twinned" (Pv.top 71),
boot_o_8 P,
f0 "_law_copy" "_law_copy" (Pv.top 72),
boot_o_8 P,
f0 "_law_one" "_law_one" (Pv.top 73),
boot_o_8 P,
f0 "_law_holds" "_law_holds" (Pv.top 74),
boot_o_8 P,
f0 "law" "law" (Pv.top 75)]
noncomputable def FL:List Obj:=wv [2,2,11,1,6,4,2,1,6,3,2,1,6,3,2,1,6,1,1,2,1,5,2,1,1,2,1,3,2,3,1,2,1,3,1,2,1,3,1,2,1,3,1,2,1,3,1,2,1,3,1,2,1,3,1,2,1,3,1,2,1,3,1,2,1,3,2,2,7,1,1,2,1,3,1,2,1,3,1,2,1,3,1,2,1,7,2,1,6,1,1,2,1,5,2,1,6,1,1,2,1,3,1,2,1,3,1,2,1,3,1,2,1,5,2,1,6,1,1,2,1,5,2,1,1,2,1,3,1,2,1,3,1,2,1,3,1,2,1,3,1,2,1,3,1,2,1,3,1,2,1,3,1,2,1,3,1,2,1,3,1,2,1,3,1,2,1,3,1,2,1,3,1,2,1,3,1,2,1,3,1,2,1,3,1,2,1,3,1,2,1,3,1,2,1,3,1,2,1,3,1,2,1,2,7,1,1,2,1,7,2,1,6,1,1,2,1,3,1,2,1,5,2,1,1,2,1,3,1,2,1,3,1,2,1,3,1,2,1,2,12,1,1,2,1,2,7,1,2,3,1,2,1,3,2,3,1,2,1,3,1,2,1,2] (OL P) ((KK P).map (·.2))
noncomputable def T0:BT:=bt 12 ((((FL P).take 15).set 3 (oo0 P)).set 12 (boot_o_8 P))
noncomputable def T1:BT:=bt 12 (((((FL P).take 193).set 3 (oo1 P)).set 12 (oo2 P)).set 188 (oo3 P))
noncomputable def T2:BT:=bt 12 ((((FL P).take 411).set 3 (oo4 P)).set 12 (oo5 P))
noncomputable def T3:BT:=bt 12 (FL P)
noncomputable def HF:Heap:={objs:=⟨FL P⟩}
end
noncomputable def VQ:Program:={PySem.Challenge.pw_papervault_k50_shown_where_the_keeper_fa with main:={PySem.Challenge.pw_papervault_k50_shown_where_the_keeper_fa.main with body:=[top 1,top 2,top 3,top 4,top 6,top 7,top 8,top 10,top 11,top 12,top 13,top 14,top 15,top 16,top 17,top 18,top 19,top 20,top 21,top 23,top 24,top 25,top 26,top 27,top 29,top 30,top 32,top 33,top 34,top 36,top 37,top 38,top 39,top 40,top 41,top 42,top 43,top 44,top 45,top 46,top 47,top 49,top 50,top 51,top 52,top 53,top 54,top 55,top 56,top 57,top 58,top 60,top 61,top 63,top 64,top 65,top 66,top 67,top 68,top 69,top 70,top 71,top 72,top 73,top 74,top 75]}}
noncomputable abbrev _root_.PQ:=PySem.Challenge.rw_papervault_k50_shown_where_the_keeper_fa.prog
noncomputable abbrev RQ:OpenRow:=OpenLaw.row PySem.Challenge.rw_papervault_k50_shown_where_the_keeper_fa
noncomputable def EV:Env:={scope:=RQ.prog.main.scope,locals:=mainNs,globals:=mainNs,cells:=[],code:=.ref 13,frame:=some 14}
noncomputable abbrev BQ:List Stmt:=behindTheImports RQ.prog
noncomputable abbrev CQ:Code:=.body BQ EV
noncomputable abbrev TQ:List Frame:=[topFrame ⟨0,0,0,0⟩]
noncomputable abbrev ST (t:BT)(n k:Nat)(os:OsState):SharedT:=⟨t,n,{}, #[],{},k,os⟩
theorem go0 (w:World):(λos=>topGo treeTable RQ.prog w 11 (some (.ref 6)) 12 {heap:=boot_heap w.params,drawn:=boot_drawn,toks:=boot_toks,os:=os} (topStub RQ.prog))=λos=>some ((ST (T0 w.params) 15 187 os).abs,⟨denote treeTable CQ,CQ,⟨0,0,0,0⟩,TQ⟩):=by kernel_rfl
theorem go1 (w:World):(λos=>segRun treeTable RQ.prog w 11 (some (.ref 6)) 1 1 (ST (T0 w.params) 15 187 os).abs (blockOf BQ EV CQ ⟨0,0,0,0⟩ TQ))=λos=>some (Flow.next,(ST (T0 w.params) 15 187 os).abs,CQ,⟨0,0,0,0⟩):=by kernel_rfl
theorem pc1 (w:World):(λos=>PySem.W.Fast.tw10110043849684766642 PySem.W.Fast.tw14364793385576792824 RQ.prog w 11 (some (.ref 6)) 1 1638 (ST (T0 w.params) 15 187 os) (piecesOf (BQ.take 25) EV CQ ⟨0,0,0,0⟩ TQ))=λos=>some (Flow.next,ST (T1 w.params) 193 429 os,CQ,⟨91,0,109,32⟩):=by kernel_rfl
def sg1 (w:World)(os:OsState):segRunT treeTable RQ.prog w 11 (some (.ref 6)) 1 1638 (ST (T0 w.params) 15 187 os) (piecesOf (BQ.take 25) EV CQ ⟨0,0,0,0⟩ TQ)=some (Flow.next,ST (T1 w.params) 193 429 os,CQ,⟨91,0,109,32⟩):=by rw[PySem.W.Fast.te10110043849684766642,PySem.W.Fast.te14364793385576792824];exact congrFun (pc1 w) os
theorem pc2 (w:World):(λos=>PySem.W.Fast.tw10110043849684766642 PySem.W.Fast.tw14364793385576792824 RQ.prog w 11 (some (.ref 6)) 1 1636 (ST (T1 w.params) 193 429 os) (piecesOf ((BQ.drop 25).take 35) EV CQ ⟨91,0,109,32⟩ TQ))=λos=>some (Flow.next,ST (T2 w.params) 411 766 os,CQ,⟨292,0,292,8⟩):=by kernel_rfl
def sg2 (w:World)(os:OsState):segRunT treeTable RQ.prog w 11 (some (.ref 6)) 1 1636 (ST (T1 w.params) 193 429 os) (piecesOf ((BQ.drop 25).take 35) EV CQ ⟨91,0,109,32⟩ TQ)=some (Flow.next,ST (T2 w.params) 411 766 os,CQ,⟨292,0,292,8⟩):=by rw[PySem.W.Fast.te10110043849684766642,PySem.W.Fast.te14364793385576792824];exact congrFun (pc2 w) os
theorem pc3 (w:World):(λos=>PySem.W.Fast.tw10110043849684766642 PySem.W.Fast.tw14364793385576792824 RQ.prog w 11 (some (.ref 6)) 1 931 (ST (T2 w.params) 411 766 os) (piecesOf (((BQ.drop 25).drop 35).take 16) EV CQ ⟨292,0,292,8⟩ TQ))=λos=>some (Flow.next,ST (T3 w.params) 543 949 os,CQ,⟨401,0,410,15⟩):=by kernel_rfl
def sg3 (w:World)(os:OsState):segRunT treeTable RQ.prog w 11 (some (.ref 6)) 1 931 (ST (T2 w.params) 411 766 os) (piecesOf (((BQ.drop 25).drop 35).take 16) EV CQ ⟨292,0,292,8⟩ TQ)=some (Flow.next,ST (T3 w.params) 543 949 os,CQ,⟨401,0,410,15⟩):=by rw[PySem.W.Fast.te10110043849684766642,PySem.W.Fast.te14364793385576792824];exact congrFun (pc3 w) os
noncomputable abbrev SF (w:World)(os:OsState):Shared:={heap:=HF w.params,toks:=949,os:=os}
theorem goN (w:World):(λos=>topRun treeTable RQ.prog w 11 (some (.ref 6)) 3 (ST (T3 w.params) 543 949 os).abs ⟨doneF Flow.next,CQ,⟨401,0,410,15⟩,TQ⟩)=λos=>some (SF w os):=by kernel_rfl
theorem goE:(((BQ.drop 25).drop 35).drop 16)=[]:=by kernel_rfl
theorem goA {w:World}{N:Nat}{s r:Shared}{b:List Stmt}{q:Pos}(k:Nat)(h:topRun treeTable RQ.prog w 11 (some (.ref 6)) N s (restOf (b.take k++b.drop k) EV CQ q TQ)=some r):topRun treeTable RQ.prog w 11 (some (.ref 6)) N s (restOf b EV CQ q TQ)=some r:=by rwa[List.take_append_drop] at h
def runs (w:World)(os:OsState):topRun treeTable RQ.prog w 11 (some (.ref 6)) (12+(1+(1638+(1636+(931+(3)))))) {heap:=boot_heap w.params,drawn:=boot_drawn,toks:=boot_toks,os:=os} (topStub RQ.prog)=some (SF w os):=by refine go_top (congrFun (go0 w) os) ?_;refine piece_block (congrFun (go1 w) os) ?_;refine goA 25 ?_;refine piece_app (segRun_of (sg1 w os)) ?_;refine goA 35 ?_;refine piece_app (segRun_of (sg2 w os)) ?_;refine goA 16 ?_;refine piece_app (segRun_of (sg3 w os)) ?_;rw[goE];exact piece_nil (congrFun (goN w) os)
noncomputable abbrev SQ (s:Shared):=PySem.W.Fast.tw4187177175401517315 VQ [] [] (λs=>xlAt VQ [] s && recOk (RowW.records (OpenRow.toRowW RQ)) s) true s
theorem zrF:[]=importedModules RQ.prog.main.body:=by kernel_rfl
theorem opn (w:World):(fencedOpening treeTable RQ.prog w 4221).map (λs=>(s.heap,s.gens,s.drawn,s.toks))=some (boot_heap w.params, #[],boot_drawn,boot_toks):=by kernel_rfl
theorem obs0 (w:World)(os:OsState):(staticsOk [] (boot_heap w.params) (HF w.params) && namesBound RQ.prog (HF w.params) && gensDone (SF w os) && laidKept (boot_heap w.params) (HF w.params))=true:=by kernel_rfl
theorem obs1 (w:World)(os:OsState):(SQ (SF w os)).1=(openGood VQ []).1:=by kernel_rfl
theorem obs2 (w:World)(os:OsState):(SQ (SF w os)).2.1=(openGood VQ []).2.1:=by kernel_rfl
theorem obs3 (w:World)(os:OsState):(SQ (SF w os)).2.2.1=(openGood VQ []).2.2.1:=by kernel_rfl
theorem obs4 (w:World)(os:OsState):(SQ (SF w os)).2.2.2.1=(openGood VQ []).2.2.2.1:=by kernel_rfl
theorem obs5 (w:World)(os:OsState):(SQ (SF w os)).2.2.2.2.1=(openGood VQ []).2.2.2.2.1:=by kernel_rfl
theorem obs6 (w:World)(os:OsState):(SQ (SF w os)).2.2.2.2.2=(openGood VQ []).2.2.2.2.2:=by kernel_rfl
theorem obs7 (w:World):KA.map (HF w.params).get? =(KK w.params).map λp=>some p.2:=by kernel_rfl
theorem left:LeftO RQ.prog VQ [] (λs=>xlAt VQ [] s && recOk (RowW.records (OpenRow.toRowW RQ)) s) (λs=>KA.map s.heap.get?) (λw=>(KK w.params).map λp=>some p.2) 4221:=by refine LeftO.of_pieces (H₀:=boot_heap) (H₁:=HF) (gs₀:= #[]) (gs₁:= #[]) (d₀:=boot_drawn) (d₁:={}) (k₀:=boot_toks) (k₁:=949) (m₀:=11) (ann:=some (.ref 6)) (M:=12+(1+(1638+(1636+(931+(3)))))) opn (λw=>by kernel_rfl) runs (by kernel_rfl) λw=>funext λos=>?_;rw[<-zrF];refine Prod.ext (obs0 w os) (Prod.ext ?_ (obs7 w));rw[PySem.W.Fast.te4187177175401517315];exact Prod.ext (obs1 w os) (Prod.ext (obs2 w os) (Prod.ext (obs3 w os) (Prod.ext (obs4 w os) (Prod.ext (obs5 w os) (obs6 w os)))))
theorem addrs:∀P,KA=(KK P).map (·.1):=λP=>by kernel_rfl
theorem said:PySem.Challenge.rw_papervault_k50_shown_where_the_keeper_fa.wellSaid=true:=by kernel_rfl
end Pv
namespace L2
open PySem PySem.Spec PyProof.Rows
abbrev Key:=Sum Int Str
def zgd:Key->Value->Bool
 | .inl k,v=>Value.isInt k v
 | .inr x,v=>Value.isStrOf x v
def keyH (w:World):Key->Int
 | .inl k=>hashInt k
 | .inr x=>hashStr w x
theorem zap:∀{k:Key} {v:Value},zgd k v=true->(∃i t,k=Sum.inl i/\v=Value.int i t)\/(∃x t,k=Sum.inr x/\v=Value.str x t)
 | .inl i,v,h=>by obtain⟨t,e⟩:=Value.isInt_shape (k:=i) (v:=v) h;exact .inl ⟨i,t,rfl,e⟩
 | .inr x,v,h=>by obtain⟨t,e⟩:=Value.isStrOf_shape (x:=x) (v:=v) h;exact .inr ⟨x,t,rfl,e⟩
def zlO (i:Int)(t:Tok):zgd (.inl i) (.int i t)=true:=by simp[zgd,Value.isInt]
def zlP (x:Str)(t:Tok):zgd (.inr x) (.str x t)=true:=by simp[zgd,Value.isStrOf]
noncomputable abbrev _root_.Je:=@decide_eq_false
theorem zqX (a b:Int):decide ((Sum.inl a:Key)=Sum.inl b)=(a==b):=by
 by_cases e:a=b
 ·subst e;simp
 ·have h:¬(Sum.inl a:Key)=Sum.inl b:=λq=>e (Sum.inl.inj q);rw[Je h];exact(beq_eq_false_iff_ne.mpr e).symm
theorem zqL (a b:Str):decide ((Sum.inr a:Key)=Sum.inr b)=decide (a=b):=by
 by_cases e:a=b
 ·subst e;simp
 ·have h:¬(Sum.inr a:Key)=Sum.inr b:=λq=>e (Sum.inr.inj q);rw[Je h,Je e]
theorem zqo (a:Int)(b:Str):decide ((Sum.inl a:Key)=Sum.inr b)=false:=Je (λq=>nomatch q)
theorem zqe (a:Str)(b:Int):decide ((Sum.inr a:Key)=Sum.inl b)=false:=Je (λq=>nomatch q)
def zal (prog:Program)(w:World):PySem.KeyKind prog w Key where
 is:=zgd
 hash:=keyH w
 inj:=λv a b ha hb=>by
  rcases zap ha with ⟨i,t,rfl,rfl⟩ | ⟨x,t,rfl,rfl⟩
  ·rcases zap hb with ⟨j,u,rfl,e⟩ | ⟨y,u,rfl,e⟩
   ·injection e with e1 _;rw[e1]
   ·exact nomatch e
  ·rcases zap hb with ⟨j,u,rfl,e⟩ | ⟨y,u,rfl,e⟩
   ·exact nomatch e
   ·injection e with e1 _;rw[e1]
 byValue:=λk v h=>by rcases zap h with ⟨i,t,rfl,rfl⟩ | ⟨x,t,rfl,rfl⟩ <;> rfl
 pyHash:=λhv h=>by
  rcases zap hv with ⟨i,t,rfl,rfl⟩ | ⟨x,t,rfl,rfl⟩
  ·exact wpAny_pyHash_int h
  ·exact wpAny_pyHash_str h
 eqBool:=λhu hv h=>by
  rcases zap hu with ⟨i,t,rfl,rfl⟩ | ⟨x,t,rfl,rfl⟩
  ·rcases zap hv with ⟨j,u,rfl,rfl⟩ | ⟨y,u,rfl,rfl⟩
   ·rw[zqX] at h;exact wpAny_eqBool_int h
   ·rw[zqo] at h;exact SeqAt.EqAt.int_str i t y u _ _ _ _ h
  ·rcases zap hv with ⟨j,u,rfl,rfl⟩ | ⟨y,u,rfl,rfl⟩
   ·rw[zqe] at h;exact SeqAt.EqAt.str_int x t j u _ _ _ _ h
   ·rw[zqL] at h;exact wpAny_eqBool_str h
 «strs»:=λk x t v h=>by
  rcases zap h with ⟨i,u,rfl,e⟩ | ⟨y,u,rfl,e⟩
  ·exact nomatch e
  ·injection e with e1 _
   subst e1;cases v <;> rfl
def ziW (prog:Program)(w:World)(i:Int)(t:Tok):(zal prog w).is (.inl i) (.int i t)=true:=zlO i t
def ziN (prog:Program)(w:World)(x:Str)(t:Tok):(zal prog w).is (.inr x) (.str x t)=true:=zlP x t
inductive V where
 | non | bl (b:Bool) | int (i:Int) | str (x:Str) | byt (b:Array UInt8) | flt (b:UInt64) | ref (a:Addr) | ty (n:String)
 deriving DecidableEq
def RelV:V->Value->Prop
 | .non,u=>u=Value.none
 | .bl b,u=>u=Value.bool b
 | .int i,u=>∃t,u=Value.int i t
 | .str x,u=>∃t,u=Value.str x t
 | .byt b,u=>∃t,u=Value.bytes b t
 | .flt b,u=>∃t,u=Value.float b t
 | .ref a,u=>u=Value.ref a
 | .ty n,u=>u=Value.type n
abbrev Vals:List V->List Value->Prop:=Paired RelV
abbrev _root_.QN:=List Value
abbrev _root_.QQ:=List V
theorem Vals.length {xs:QQ}{us:QN}(r:Vals xs us):xs.length=us.length:=Paired.length r
theorem Vals.get:∀{xs:QQ} {us:QN} {i:Nat} {x:V},Vals xs us->xs[i]? =some x->∃u,us[i]? =some u/\RelV x u
 | _,_,_,_,.nil,e=>by simp at e
 | _,_,0,_,.cons r _,e=>by simp at e;subst e;exact⟨_,rfl,r⟩
 | _,_,i+1,x,.cons _ t,e=>by obtain⟨u,h1,h2⟩:=Vals.get (i:=i) (x:=x) t (by simpa using e);exact⟨u,by simpa using h1,h2⟩
theorem Vals.append:∀{xs ys:QQ} {us ws:QN},Vals xs us->Vals ys ws->Vals (xs++ys) (us++ws)
 | _,_,_,_,.nil,s=>s
 | _,_,_,_,.cons r t,s=>.cons r (Vals.append t s)
theorem Vals.take:∀{xs:QQ} {us:QN} (n:Nat),Vals xs us->Vals (xs.take n) (us.take n)
 | _,_,0,_=>.nil
 | _,_,_+1,.nil=>.nil
 | _,_,n+1,.cons r t=>.cons r (Vals.take n t)
theorem Vals.drop:∀{xs:QQ} {us:QN} (n:Nat),Vals xs us->Vals (xs.drop n) (us.drop n)
 | _,_,0,r=>r
 | _,_,_+1,.nil=>.nil
 | _,_,n+1,.cons _ t=>Vals.drop n t
def RelO:Option V->Option Value->Prop
 | some v,some u=>RelV v u
 | none,none=>True
 | _,_=>False
def KV {κ:Type}:List (κ ×V)->List (κ ×Value)->Prop:=Paired λ(p:κ ×V) (q:κ ×Value)=>p.1=q.1/\RelV p.2 q.2
def kV:Key->V
 | .inl i=>.int i
 | .inr x=>.str x
abbrev _root_.QG:=List (Key ×V)
inductive HO where
 | lst (xs:QQ)
 | tup (xs:QQ)
 | dK (kvs:QG) | dT (kvs:List (List Key ×V))
 | set (S:Int->Bool) (n:Nat)
 | ins (C dx:Addr) (fs:List (Str ×V))
 | own (x:Addr)
 | xd (fs:List (Str ×V))
 | met (f x:Addr)
 | rng (lo hi:Int)
 | frz (o:Obj) (u:HO)
 | tbl (ps:Array Value)
 | ext (φ:Heap->Prop)
abbrev Hp:=Addr->Option HO
def upd (H:Hp)(a:Addr)(o:HO):Hp:=λb=>if b=a then some o else H b
theorem zg {H:Hp}{a:Addr}{o:HO}:upd H a o a=some o:=by unfold upd;rw[if_pos rfl]
theorem zk {H:Hp}{a b:Addr}{o:HO}(h:b≠a):upd H a o b=H b:=by unfold upd;rw[if_neg h]
def zky {H:Hp}{a:Addr}{o u:HO}:upd (upd H a o) a u=upd H a u:=by funext b;unfold upd;split <;> rfl
theorem za4 {H:Hp}{a b:Addr}{o u:HO}(h:H a=some o)(h':H b=some u)(d:o≠u):a≠b:=by intro e;subst e;rw[h] at h';exact d (Option.some.inj h')
theorem zm {H:Hp}{a b:Addr}{o:HO}(h:H a=some o)(h':H b=none):a≠b:=by intro e;subst e;rw[h] at h';cases h'
section
variable (P:Program)(w:World)
def zac (H:Hp)(h:Heap)(a:Addr):HO->Prop
 | .lst xs=>xs.length<=sizeLine/\∃(its:QN) (n:Nat),Vals xs its/\h.get? a=some {cls:=.type "list",data:=.seq its.toArray n}
 | .tup xs=>xs.length<=sizeLine/\∃its:List Value,Vals xs its/\IsTup h a its.toArray
 | .dK kvs=>kvs.length<=sizeLine/\(a==sysModules)=false/\∃vs,KV kvs vs/\h.DictOf (zal P w) a vs
 | .dT kvs=>kvs.length<=sizeLine/\(a==sysModules)=false/\∃xs:List (List Key ×Addr ×Value),
   Paired (λ(p:List Key ×V) (q:List Key ×Addr ×Value)=>p.1=q.1/\H q.2.1=some (.tup (p.1.map kV))/\RelV p.2 q.2.2) kvs xs/\
   ∃o es ep,h.get? a=some o/\o.ExactDict/\o.data=.dict es ep/\es.toList=xs.map (entryOfKey (tupleKind (zal P w)))/\(xs.map (·.1)).Nodup
 | .set S n=>h.SetOf (intKind P w) a S n
 | .ins C dx fs=>H dx=some (.own a)/\fs.length<=1000/\dx≠a/\h.get? a=some (PySem.W.instObj C dx)/\
   ∃mA,h.Ns1 dx mA/\(∀f,RelO (fs.lookup f) (mA f))/\PySem.Within mA (fs.map (·.1))
 | .own _=>∃o,h.get? a=some o
 | .xd fs=>∃mA,h.Ns1 a mA/\∀f,RelO (fs.lookup f) (mA f)
 | .rng lo hi=>∃t u v,h.get? a=some {cls:=.type "range",data:=.fields #[.int lo t,.int hi u,.int 1 v]}
 | .frz o u=>h.get? a=some o/\zac H h a u
 | .tbl ps=>h.get? a=some {cls:=.none,data:=.fields ps}
 | .met f x=>h.get? a=some (PySem.W.methodObj (.ref f) (.ref x))
 | .ext φ=>φ h/\(∃o,h.get? a=some o)/\∀h1 h2:Heap,φ h1->(∀o,h1.get? a=some o->h2.get? a=some o)->φ h2
def HOk (H:Hp)(h:Heap):Prop:=∀a o,H a=some o->zac P w H h a o
end
section
variable {P:Program}{w:World}{H H':Hp}{h h':Heap}{a:Addr}{o:HO}
theorem zac.lt (x:zac P w H h a o):a < h.objs.size:=by
 cases o with
 | lst xs=>obtain⟨_,_,_,_,e⟩:=x;exact Heap.lt_size e
 | tup xs=>obtain⟨_,_,_,p⟩:=x;exact p.lt
 | dK kvs=>obtain⟨_,_,_,_,o,_,_,e,_⟩:=x;exact Heap.lt_size e
 | dT kvs=>obtain⟨_,_,_,_,o,_,_,e,_⟩:=x;exact Heap.lt_size e
 | set S n=>obtain⟨o,_,_,_,e,_⟩:=x;exact Heap.lt_size e
 | ins C dx fs=>obtain⟨_,_,_,e,_⟩:=x;exact Heap.lt_size e
 | own y=>obtain⟨_,e⟩:=x;exact Heap.lt_size e
 | xd fs=>obtain⟨_,⟨_,_,_,e,_⟩,_⟩:=x;exact Heap.lt_size e
 | rng lo hi=>obtain⟨_,_,_,e⟩:=x;exact Heap.lt_size e
 | frz ob u=>obtain⟨e,_⟩:=x;exact Heap.lt_size e
 | tbl ps=>exact Heap.lt_size (show h.get? a=some _ from x)
 | met f y=>exact Heap.lt_size (show h.get? a=some _ from x)
 | ext φ=>obtain⟨_,⟨_,e⟩,_⟩:=x;exact Heap.lt_size e
theorem Paired.mapP {α β:Type}{F G:α->β->Prop}:∀{l₁:List α} {l₂:List β},Paired F l₁ l₂->(∀a b,F a b->G a b)->Paired G l₁ l₂
 | _,_,.nil,_=>.nil
 | _,_,.cons r t,f=>.cons (f _ _ r) (Paired.mapP t f)
def zac.stay (x:zac P w H h a o)(k:∀b u,(b=a\/H b=some (.own a))->h.get? b=some u->h'.get? b=some u)
  (ho:∀b,H b=some (.own a)->H' b=some (.own a)) (ht:∀b xs,H b=some (.tup xs)->H' b=some (.tup xs)):zac P w H' h' a o:=by
 induction o with
 | lst xs=>obtain⟨z,its,n,r,e⟩:=x;exact⟨z,its,n,r,k _ _ (.inl rfl) e⟩
 | tup xs=>obtain⟨z,its,r,ob,e,c⟩:=x;exact⟨z,its,r,ob,k _ _ (.inl rfl) e,c⟩
 | dK kvs=>obtain⟨z,y,vs,r,ob,es,ep,e,c⟩:=x;exact⟨z,y,vs,r,ob,es,ep,k _ _ (.inl rfl) e,c⟩
 | dT kvs=>obtain⟨z,y,xs,r,ob,es,ep,e,c⟩:=x;exact⟨z,y,xs,Paired.mapP r λp q z=>⟨z.1,ht _ _ z.2.1,z.2.2⟩,ob,es,ep,k _ _ (.inl rfl) e,c⟩
 | set S n=>obtain⟨ob,es,ep,t,e,c⟩:=x;exact⟨ob,es,ep,t,k _ _ (.inl rfl) e,c⟩
 | ins C dx fs=>obtain⟨d,z,ne,e,mA,⟨od,es,ep,e2,c⟩,r⟩:=x;exact⟨ho _ d,z,ne,k _ _ (.inl rfl) e,mA,⟨od,es,ep,k _ _ (.inr d) e2,c⟩,r⟩
 | own y=>obtain⟨ob,e⟩:=x;exact⟨ob,k _ _ (.inl rfl) e⟩
 | xd fs=>obtain⟨mA,⟨od,es,ep,e,c⟩,r⟩:=x;exact⟨mA,⟨od,es,ep,k _ _ (.inl rfl) e,c⟩,r⟩
 | rng lo hi=>obtain⟨t,u,v,e⟩:=x;exact⟨t,u,v,k _ _ (.inl rfl) e⟩
 | frz ob u ih=>obtain⟨e,q⟩:=x;exact⟨k _ _ (.inl rfl) e,ih q⟩
 | tbl ps=>have e:h.get? a=some {cls:=.none,data:=.fields ps}:=x;show h'.get? a=some {cls:=.none,data:=.fields ps};exact k a _ (.inl rfl) e
 | met f y=>have e:h.get? a=some (PySem.W.methodObj (.ref f) (.ref y)):=x;show h'.get? a=some (PySem.W.methodObj (.ref f) (.ref y));exact k a _ (.inl rfl) e
 | ext φ=>obtain⟨p,⟨o,e⟩,st⟩:=x;exact⟨st _ _ p λo q=>k _ _ (.inl rfl) q,⟨o,k _ _ (.inl rfl) e⟩,st⟩
theorem HOk.lt (x:HOk P w H h)(e:H a=some o):a < h.objs.size:=(x a o e).lt
noncomputable abbrev _root_.Jg:=@Nat.lt_of_lt_of_le
noncomputable abbrev _root_.Jh:=@absurd
noncomputable abbrev _root_.Jw:=@Nat.lt_irrefl
def HOk.fresh (x:HOk P w H h)(e:h.objs.size<=a):H a=none:=by
 cases q:H a with
 | none=>rfl
 | some u=>exact Jh (Jg (x.lt q) e) (Jw _)
theorem HOk.kept (x:HOk P w H h)(k:∀b u,h.get? b=some u->h'.get? b=some u):HOk P w H h':=λa o e=>
 (x a o e).stay (λb u _ q=>k b u q) (λ_ q=>q) λ_ _ q=>q
def HOk.laid (x:HOk P w H h)(k:∀b u,h.get? b=some u->h'.get? b=some u)(hp:h.objs.size<=a)(new:zac P w (upd H a o) h' a o):HOk P w (upd H a o) h':=λb u e=>by
 have hn:=x.fresh hp;by_cases hb:b=a
 ·subst hb;rw[zg] at e;cases e;exact new
 ·rw[zk hb] at e;exact(x b u e).stay (λc v _ q=>k c v q) (λc q=>by rw[zk (zm q hn)];exact q) λc xs q=>by rw[zk (zm q hn)];exact q
end
def Rd (H:Hp)(a:Addr)(u:HO):Prop:=H a=some u\/∃o,H a=some (.frz o u)
theorem Rd.ok {P:Program}{w:World}{H:Hp}{h:Heap}{a:Addr}{u:HO}(r:Rd H a u)(x:HOk P w H h):zac P w H h a u:=by
 rcases r with r | ⟨o,r⟩
 ·exact x a u r
 ·obtain⟨_,q⟩:=x a _ r;exact q
def Mut:Option HO->Prop
 | some (.lst _)=>True
 | some (.dK _)=>True
 | some (.dT _)=>True
 | some (.set _ _)=>True
 | some (.ins _ _ _)=>True
 | some (.ext _)=>True
 | _=>False
section
variable {P:Program}{w:World}{H:Hp}{h h':Heap}{x e:Addr}{o':HO}
def HOk.write (ok:HOk P w H h)(mu:Mut (H x))(he:e=x\/H e=some (.own x))(k:∀b u,b≠e->h.get? b=some u->h'.get? b=some u)(heo:∃u,h'.get? e=some u)
  (new:zac P w (upd H x o') h' x o'):HOk P w (upd H x o') h':=λb u q=>by
 have nown:∀c y,H c=some (.own y)->c≠x:=λc y r z=>by subst z;rw[r] at mu;exact mu
 have ntup:∀c xs,H c=some (.tup xs)->c≠x:=λc xs r z=>by subst z;rw[r] at mu;exact mu
 by_cases hb:b=x
 ·subst hb;rw[zg] at q;cases q;exact new
 ·rw[zk hb] at q;by_cases hbe:b=e
  ·have q':H b=some (.own x):=by
    rcases he with z | z
    ·exact Jh (hbe.trans z) hb
    ·rw[hbe];exact z
   rw[q] at q';cases q';obtain⟨v,hv⟩:=heo;exact⟨v,by rw[hbe];exact hv⟩
  ·refine(ok b u q).stay (λc v hc r=>k c v ?_ r) (λc r=>by rw[zk (nown c b r)];exact r) λc xs r=>by rw[zk (ntup c xs r)];exact r
   rcases hc with rfl | hc
   ·exact hbe
   ·rintro rfl;rcases he with z | z
    ·exact nown c b hc z
    ·rw[hc] at z;cases z;exact hb rfl
end
abbrev _root_.QO:=List Addr
structure Un (fs ex:QO)(H H':Hp)(h h':Heap):Prop where
 keep:∀b o,h.get? b=some o->H b=none->b∉fs->b∉ex->h'.get? b=some o
 slot:∀b o,h.get? b=some o->H b=none->b∈fs->b∉ex->∃sl,h'.get? b=some {o with slots:=sl}
 free:∀b o,h.get? b=some o->H b=none->b∉ex->H' b=none
 there:∀b o,h.get? b=some o->b∉ex->∃o',h'.get? b=some o'
 tups:∀b xs,H b=some (.tup xs)->H' b=some (.tup xs)
 frzs:∀b o u,H b=some (.frz o u)->H' b=some (.frz o u)
 tbls:∀b ps,H b=some (.tbl ps)->∃more,H' b=some (.tbl (ps++more))
section
variable {fs fs' ex ex':QO}{H H1 H2:Hp}{h h1 h2 h':Heap}{a x e:Addr}{o:HO}
theorem Un.any (u:Un fs ex H H1 h h1){b:Addr}{ob:Obj}(q:h.get? b=some ob)(n:H b=none)(hx:b∉ex):∃sl,h1.get? b=some {ob with slots:=sl}:=by
 by_cases hb:b∈fs
 ·exact u.slot b ob q n hb hx
 ·exact⟨ob.slots,u.keep b ob q n hb hx⟩
theorem Un.trans (a:Un fs ex H H1 h h1)(b:Un fs ex H1 H2 h1 h2):Un fs ex H H2 h h2 where
 keep:=λc ob q n hc hx=>b.keep c ob (a.keep c ob q n hc hx) (a.free c ob q n hx) hc hx
 slot:=λc ob q n hc hx=>by obtain⟨sl,e1⟩:=a.slot c ob q n hc hx;obtain⟨sl',e2⟩:=b.slot c _ e1 (a.free c ob q n hx) hc hx;exact⟨sl',e2⟩
 free:=λc ob q n hx=>by obtain⟨o',e1⟩:=a.there c ob q hx;exact b.free c o' e1 (a.free c ob q n hx) hx
 there:=λc ob q hx=>by obtain⟨o',e1⟩:=a.there c ob q hx;exact b.there c o' e1 hx
 tups:=λc xs q=>b.tups c xs (a.tups c xs q)
 frzs:=λc ob xs q=>b.frzs c ob xs (a.frzs c ob xs q)
 tbls:=λc ps q=>by obtain⟨m1,e1⟩:=a.tbls c ps q;obtain⟨m2,e2⟩:=b.tbls c _ e1;exact⟨m1++m2,by rw[e2,Array.append_assoc]⟩
theorem Un.kept (k:∀b u,h.get? b=some u->h'.get? b=some u):Un fs ex H H h h':=
 ⟨λb ob q _ _ _=>k b ob q,λb ob q _ _ _=>⟨ob.slots,k b ob q⟩,λ_ _ _ n _=>n,λb ob q _=>⟨ob,k b ob q⟩,λ_ _ q=>q,λ_ _ _ q=>q,λ_ ps q=>⟨#[],by rw[q];simp⟩⟩
def Un.refl:Un fs ex H H h h:=Un.kept λ_ _ q=>q
noncomputable abbrev _root_.Jl:=@Nat.ne_of_lt
def Un.laid (k:∀b u,h.get? b=some u->h'.get? b=some u)(hp:h.objs.size<=a)(hn:H a=none):Un fs ex H (upd H a o) h h' where
 keep:=λb u q _ _ _=>k b u q
 slot:=λb u q _ _ _=>⟨u.slots,k b u q⟩
 free:=λb u q n _=>by rw[zk (Jl (Jg (Heap.lt_size q) hp))];exact n
 there:=λb u q _=>⟨u,k b u q⟩
 tups:=λb xs q=>by rw[zk (zm q hn)];exact q
 frzs:=λb u xs q=>by rw[zk (zm q hn)];exact q
 tbls:=λb ps q=>⟨#[],by rw[zk (zm q hn),q];simp⟩
def Un.write (mu:Mut (H x))(he:e=x\/H e=some (.own x))(k:∀b u,b≠e->h.get? b=some u->h'.get? b=some u)(heo:∃u,h'.get? e=some u):Un fs ex H (upd H x o) h h':=by
 have hx:∀b,H b=none->b≠x:=λb n z=>by subst z;rw[n] at mu;exact mu
 have hb:∀b,H b=none->b≠e:=λb n z=>by
  subst z;rcases he with r | r
  ·exact hx b n r
  ·rw[n] at r;cases r
 have hm:∀b u,H b=some u->¬Mut (some u)->b≠x:=λb u q nm z=>by subst z;rw[q] at mu;exact nm mu
 refine⟨λb u q n _ _=>k b u (hb b n) q,λb u q n _ _=>⟨u.slots,k b u (hb b n) q⟩,λb u q n _=>by rw[zk (hx b n)];exact n,λb u q _=>?_,
  λb xs q=>by rw[zk (hm b _ q λz=>z)];exact q,λb u xs q=>by rw[zk (hm b _ q λz=>z)];exact q,λb ps q=>⟨#[],by rw[zk (hm b _ q λz=>z),q];simp⟩⟩
 by_cases hbe:b=e
 ·subst hbe;exact heo
 ·exact⟨u,k b u hbe q⟩
end
def trk (h:Heap)(H:Hp):List Addr:=(List.range h.objs.size).filter λa=>(H a).isSome
def hidT (h:Heap)(H:Hp):Heap:=PySem.W.hideAll h (trk h H)
def zmc (h:Heap)(H:Hp):(hidT h H).objs.size=h.objs.size:=PySem.W.hideAll_size _ _
noncomputable abbrev _root_.Jz:=@List.mem_filter
def zm4 {h:Heap}{H:Hp}{b:Addr}{o:Obj}(e:h.get? b=some o)(n:H b=none):(hidT h H).get? b=some o:=
 PySem.W.hideAll_get _ e λhm=>by have q:(H b).isSome=true:=(Jz.mp hm).2;rw[n] at q;simp at q
def zoN {h:Heap}{H:Hp}{b:Addr}{o:Obj}(e:(hidT h H).get? b=some o):h.get? b=some o/\H b=none:=by
 have e':h.get? b=some o:=PySem.W.of_hideAll (trk h H) e;refine⟨e',?_⟩;cases q:H b with
 | none=>rfl
 | some x=>have hm:b∈trk h H:=Jz.mpr ⟨List.mem_range.mpr (Heap.lt_size e'),by simp[q]⟩;have z:(hidT h H).get? b=none:=PySem.W.hideAll_none (trk h H) hm;rw[z] at e;cases e
def zo0 (g h:Heap)(L:Addr):List (Addr ×Obj):=(List.range h.objs.size).filterMap λa=>if a=L\/(g.get? a).isSome=true then none else(h.get? a).map λo=>(a,o)
def rest (g h:Heap)(L d:Addr):List (Addr ×Obj):=(zo0 g h L).filter λp=>decide (p.1≠d)
abbrev _root_.QA:=PySem.W.Frag
abbrev _root_.QB:=Str->Option Value
structure Mod (K:QA)(mg:QB)(base:Heap):Prop where
 kin:K.In base
 glob:base.Ns mainGlobals mg
 blt:∃mb,base.Ns builtinsNs mb/\∀x:Str,x≠ "__name__" ->mb x=bootBuiltins x
 nolimit:base.NoLimit
structure Cx where
 prog:Program
 w:World
 K:QA
 mg:Str->Option Value
 base:Heap
 A:Around
 N:List Str
 s₀:Shared
 H₀:Hp
 env:Env
 outer:List Env
 stack:List Env
 ex:List Addr
 fn:Str->Bool
 calm:Bool
 pn:List (Addr ×Obj)
 xe:Value->Shared->Prop
def frs (l:List Env):List Addr:=l.filterMap (·.frame)
abbrev Cx.fs (X:Cx):List Addr:=frs X.outer
def Vis (sc:Scope)(x:Str):Prop:=sc.names.lookup x=some .local\/sc.names.lookup x=some .cell\/sc.names.lookup x=some .free
def Loc (sc:Scope)(x:Str):Prop:=sc.names.lookup x=some .local\/sc.names.lookup x=some .cell
def Look (env:Env)(h:Heap)(m:QB)(x:Str)(u:Value):Prop:=
 (env.kindOf x=some .local/\m x=some u)\/((env.kindOf x=some .cell\/env.kindOf x=some .free)/\∃c,env.cells.lookup x=some c/\h.IsCell c (some u))
structure Cx.Ok (X:Cx):Prop where
 mod:Mod X.K X.mg X.base
 kind:X.env.scope.kind=.function
 glob:X.env.globals=mainGlobals
 blt:X.env.builtins=builtinsNs
 above:X.s₀.heap.objs.size<=X.env.locals
 inj:∀x y c,X.env.cells.lookup x=some c->X.env.cells.lookup y=some c->x=y
 has:∀x,(X.env.kindOf x=some .cell\/X.env.kindOf x=some .free)->∃c,X.env.cells.lookup x=some c
 cab:∀x c,X.fn x=true->X.env.cells.lookup x=some c->X.s₀.heap.objs.size<=c
 hd:X.calm=true->X.A.handled=none
 frames:X.A.frames=some X.stack
 stk:X.stack=X.outer\/(X.stack=X.env::X.outer/\X.env.frame=some X.env.locals)
 exf:∀b∈X.ex,b≠X.env.locals/\∀x c,X.env.cells.lookup x=some c->c≠b
 bs:∀b o,X.base.get? b=some o->X.s₀.heap.get? b=some o/\X.H₀ b=none
 bsz:X.base.objs.size<=X.s₀.heap.objs.size
 noex:∀b o,X.base.get? b=some o->b∉X.ex
 exfs:∀b∈X.ex,b∉X.fs
 funs:X.s₀.heap.FunFrames X.base X.outer
 frf:∀b∈X.fs,X.H₀ b=none
abbrev _root_.QE:=List (Addr ×Obj)
structure Inv (X:Cx)(pins:QE)(σ:List (Option V))(H:Hp)(s:Shared):Prop where
 ok:X.Ok
 os:s.os=X.s₀.os
 bare:AllBare s.gens
 base:Un X.fs X.ex X.H₀ H X.s₀.heap s.heap
 loc:∃m,s.heap.Ns X.env.locals m/\∀(i:Nat) (x:Str) (v:V),X.N[i]? =some x->σ[i]? =some (some v)->Vis X.env.scope x->∃u,RelV v u/\Look X.env s.heap m x u
 cell:∀x c,X.env.cells.lookup x=some c->∃v,s.heap.IsCell c v
 free:H X.env.locals=none
 freeC:∀x c,X.env.cells.lookup x=some c->H c=none
 pin:∀p∈X.pn++pins,s.heap.get? p.1=some p.2/\H p.1=none/\p.1≠X.env.locals/\p.1∉X.fs/\∀v,p.2.data≠ .cell v
 hok:HOk X.prog X.w H s.heap
 len:σ.length=X.N.length
section
variable {X:Cx}{pins:QE}{σ:List (Option V)}{H H':Hp}{s:Shared}{h':Heap}
def Cx.Ok.nofr (ok:X.Ok){b:Addr}{o:Obj}(e:X.base.get? b=some o):b∉X.fs:=λhb=>by have:=(ok.funs.mem hb).1;rw[e] at this;cases this
theorem Inv.bs (I:Inv X pins σ H s):∀b o,X.base.get? b=some o->s.heap.get? b=some o/\H b=none:=λb o e=>
 ⟨I.base.keep b o (I.ok.bs b o e).1 (I.ok.bs b o e).2 (I.ok.nofr e) (I.ok.noex b o e),I.base.free b o (I.ok.bs b o e).1 (I.ok.bs b o e).2 (I.ok.noex b o e)⟩
def Inv.bk (I:Inv X pins σ H s):∀b o,X.base.get? b=some o->s.heap.get? b=some o:=λb o e=>(I.bs b o e).1
theorem Inv.mod (I:Inv X pins σ H s):Mod X.K X.mg X.base:=I.ok.mod
def Inv.kIn (I:Inv X pins σ H s):X.K.In s.heap:=I.ok.mod.kin.keeps I.bk
theorem Inv.lt (I:Inv X pins σ H s):X.env.locals < s.heap.objs.size:=let ⟨_,hn,_⟩:=I.loc;hn.lt
noncomputable abbrev _root_.Jk:=@Nat.le_trans
theorem Inv.sz (I:Inv X pins σ H s):X.s₀.heap.objs.size<=s.heap.objs.size:=Jk I.ok.above (Nat.le_of_lt I.lt)
def Inv.nofs (I:Inv X pins σ H s){a:Addr}(h:s.heap.objs.size<=a):a∉X.fs:=λhb=>by obtain⟨_,o,ho,_⟩:=I.ok.funs.mem hb;exact Jh (Jg (Heap.lt_size ho) (Jk I.sz h)) (Jw _)
def Inv.cne (I:Inv X pins σ H s):∀x c,X.env.cells.lookup x=some c->c≠X.env.locals:=λx c e z=>by obtain⟨v,o,ho,hd⟩:=I.cell x c e;obtain⟨m,⟨o',es,ep,ho',hd',_⟩,_⟩:=I.loc;rw[z,ho'] at ho;cases ho;rw[hd'] at hd;cases hd
noncomputable abbrev _root_.Jn:=@List.mem_cons_of_mem
theorem Inv.funs (I:Inv X pins σ H s):s.heap.FunFrames X.base X.outer:=by
 have all:∀(l:List Env),(∀b∈frs l,b∈X.fs)->X.s₀.heap.FunFrames X.base l->s.heap.FunFrames X.base l:=by
  intro l
  induction l with
  | nil=>intro _ _;trivial
  | cons env r ih=>intro hs hl;obtain⟨hk,⟨L,o,hf,hn,ho,hd⟩,hr⟩:=hl;have hL:L∈X.fs:=hs L (by unfold frs;rw[List.filterMap_cons,hf];exact List.mem_cons_self);obtain⟨sl,e⟩:=I.base.slot L o ho (I.ok.frf L hL) hL λz=>I.ok.exfs L z hL;exact⟨hk,⟨L,_,hf,hn,e,hd⟩,ih (λb hb=>hs b (by unfold frs;rw[List.filterMap_cons,hf];exact Jn _ hb)) hr⟩
 exact all X.outer (λ_ hb=>hb) I.ok.funs
theorem Inv.stack (I:Inv X pins σ H s):s.heap.FunFrames X.base X.stack:=by
 rcases I.ok.stk with e | ⟨e,hf⟩
 ·rw[e];exact I.funs
 ·rw[e];obtain⟨m,hn,_⟩:=I.loc;refine .cons (by rw[I.ok.kind];decide) hf hn ?_ I.funs;exact Heap.get?_none_of_le (Jk I.ok.bsz I.ok.above)
def Inv.stkSub (I:Inv X pins σ H s):∀b∈frs X.stack,b∈X.env.locals::X.fs:=λb hb=>by
 rcases I.ok.stk with e | ⟨e,hf⟩
 ·rw[e] at hb;exact Jn _ hb
 ·rw[e] at hb;unfold frs at hb;rw[List.filterMap_cons,hf] at hb;exact hb
def Inv.stkFree (I:Inv X pins σ H s):∀b∈frs X.stack,H b=none:=λb hb=>by
 rcases List.mem_cons.mp (I.stkSub b hb) with e | hb
 ·rw[e];exact I.free
 ·obtain⟨_,o,ho,_⟩:=I.ok.funs.mem hb;exact I.base.free b o ho (I.ok.frf b hb) λz=>I.ok.exfs b z hb
def Inv.step {g':Array GenState}{t':Nat}{d':Drawn}{ch:QO}(I:Inv X pins σ H s)
  (hch:∀b∈ch,(b∈X.ex\/X.s₀.heap.objs.size<=b)/\b≠X.env.locals/\(∀x c,X.env.cells.lookup x=some c->c≠b)/\∀p∈X.pn++pins,p.1≠b)
  (keep:∀b o,b≠X.env.locals->b∉X.fs->b∉ch->s.heap.get? b=some o->H b=none->h'.get? b=some o)
  (slot:∀b o,b≠X.env.locals->b∈X.fs->b∉ch->s.heap.get? b=some o->H b=none->∃sl,h'.get? b=some {o with slots:=sl}) (free:∀b o,b∉ch->s.heap.get? b=some o->H b=none->H' b=none)
  (there:∀b o,b∉ch->s.heap.get? b=some o->∃o',h'.get? b=some o')
  (tups:∀b xs,H b=some (.tup xs)->H' b=some (.tup xs)) (frzs:∀b o u,H b=some (.frz o u)->H' b=some (.frz o u)) (tbls:∀b ps,H b=some (.tbl ps)->∃more,H' b=some (.tbl (ps++more)))
  (ns:∀m,s.heap.Ns X.env.locals m->h'.Ns X.env.locals m) (hok:HOk X.prog X.w H' h') (hg:AllBare g'):
  Inv X pins σ H' {s with heap:=h',gens:=g',drawn:=d',toks:=t'}:=by
 have neL:∀b o,X.s₀.heap.get? b=some o->b≠X.env.locals:=λb o e=>Jl (Jg (Heap.lt_size e) I.ok.above);have neC:∀b o,X.s₀.heap.get? b=some o->b∉X.ex->b∉ch:=λb o e hx hb=>by
  rcases(hch b hb).1 with z | z
  ·exact hx z
  ·exact Jh (Jg (Heap.lt_size e) z) (Jw _)
 have cellK:∀x c,X.env.cells.lookup x=some c->∀v,s.heap.IsCell c v->h'.IsCell c v:=λx c e v ⟨o,ho,hd⟩=>by
  have nch:c∉ch:=λz=>(hch c z).2.2.1 x c e rfl;by_cases hc:c∈X.fs
  ·obtain⟨sl,q⟩:=slot c o (I.cne x c e) hc nch ho (I.freeC x c e);exact⟨_,q,hd⟩
  ·exact⟨o,keep c o (I.cne x c e) hc nch ho (I.freeC x c e),hd⟩
 refine⟨I.ok,I.os,hg,⟨λb o e n hb hx=>?_,λb o e n hb hx=>?_,λb o e n hx=>?_,λb o e hx=>?_,λb xs e=>tups b xs (I.base.tups b xs e),λb o xs e=>frzs b o xs (I.base.frzs b o xs e),λb ps e=>?_⟩,?_,λx c e=>?_,?_,λx c e=>?_,λp hp=>?_,hok,I.len⟩
 ·exact keep b o (neL b o e) hb (neC b o e hx) (I.base.keep b o e n hb hx) (I.base.free b o e n hx)
 ·obtain⟨sl,e1⟩:=I.base.slot b o e n hb hx;obtain⟨sl',e2⟩:=slot b _ (neL b o e) hb (neC b o e hx) e1 (I.base.free b o e n hx);exact⟨sl',e2⟩
 ·obtain⟨o',e1⟩:=I.base.there b o e hx;exact free b o' (neC b o e hx) e1 (I.base.free b o e n hx)
 ·obtain⟨o',e1⟩:=I.base.there b o e hx;exact there b o' (neC b o e hx) e1
 ·obtain⟨m1,e1⟩:=I.base.tbls b ps e;obtain⟨m2,e2⟩:=tbls b _ e1;exact⟨m1++m2,by rw[e2,Array.append_assoc]⟩
 ·obtain⟨m,hn,hl⟩:=I.loc;refine⟨m,ns m hn,λi x v e1 e2 e3=>?_⟩;obtain⟨u,r,l⟩:=hl i x v e1 e2 e3;refine⟨u,r,?_⟩;rcases l with l | ⟨k,c,e,z⟩
  ·exact .inl l
  ·exact .inr ⟨k,c,e,cellK x c e _ z⟩
 ·obtain⟨v,z⟩:=I.cell x c e;exact⟨v,cellK x c e v z⟩
 ·obtain⟨m,⟨o,_,_,ho,_⟩,_⟩:=I.loc;exact free _ o (λz=>(hch _ z).2.1 rfl) ho I.free
 ·obtain⟨v,o,ho,hd⟩:=I.cell x c e;exact free c o (λz=>(hch c z).2.2.1 x c e rfl) ho (I.freeC x c e)
 ·obtain⟨e,n,ne,nf,d⟩:=I.pin p hp;have nch:p.1∉ch:=λz=>(hch p.1 z).2.2.2 p hp rfl;exact⟨keep p.1 p.2 ne nf nch e n,free p.1 p.2 nch e n,ne,nf,d⟩
def Inv.un {t':Nat}(I:Inv X pins σ H s)(u:Un X.fs [] H H' s.heap h')(hok:HOk X.prog X.w H' h'):Inv X pins σ H' {s with heap:=h',toks:=t'}:=by obtain⟨m,⟨o,es,ep,ho,r⟩,_⟩:=id I.loc;obtain⟨sl,hL⟩:=u.any ho I.free (by simp);exact I.step (g':=s.gens) (d':=s.drawn) (ch:=[]) (λ_ z=>nomatch z) (λb o _ hb _ e n=>u.keep b o e n hb (by simp)) (λb o _ hb _ e n=>u.slot b o e n hb (by simp)) (λb o _ e n=>u.free b o e n (by simp)) (λb o _ e=>u.there b o e (by simp)) u.tups u.frzs u.tbls (λm' hm=>by obtain⟨o',es',ep',ho',r'⟩:=hm;rw[ho] at ho';cases ho';exact⟨_,es',ep',hL,r'⟩) hok I.bare
def Inv.call {g':Array GenState}{t':Nat}{d':Drawn}{ch:QO}(I:Inv X pins σ H s)(u:Un (frs X.stack) ch H H' s.heap h')(hok:HOk X.prog X.w H' h')(hg:AllBare g')
  (hch:∀b∈ch,(b∈X.ex\/X.s₀.heap.objs.size<=b)/\b≠X.env.locals/\(∀x c,X.env.cells.lookup x=some c->c≠b)/\∀p∈X.pn++pins,p.1≠b):
  Inv X pins σ H' {s with heap:=h',gens:=g',drawn:=d',toks:=t'}:=by
 obtain⟨m,⟨o,es,ep,ho,r⟩,_⟩:=id I.loc;obtain⟨sl,hL⟩:=u.any ho I.free λz=>(hch _ z).2.1 rfl;exact I.step (ch:=ch) hch (λb o hL hb hc e n=>u.keep b o e n (λz=>(List.mem_cons.mp (I.stkSub b z)).elim hL hb) hc) (λb o _ _ hc e n=>u.any e n hc) (λb o hc e n=>u.free b o e n hc) (λb o hc e=>u.there b o e hc) u.tups u.frzs u.tbls (λm' hm=>by obtain⟨o',es',ep',ho',r'⟩:=hm;rw[ho] at ho';cases ho';exact⟨_,es',ep',hL,r'⟩) hok hg
def Inv.turned {t':Nat}{it:Addr}(I:Inv X pins σ H s)(k:∀b o,b≠it->s.heap.get? b=some o->h'.get? b=some o)(hn:H it=none)(hL:it≠X.env.locals)
  (h1:it∈X.ex\/X.s₀.heap.objs.size<=it) (h2:∀x c,X.env.cells.lookup x=some c->c≠it) (h3:∀p∈X.pn++pins,p.1≠it):Inv X pins σ H {s with heap:=h',toks:=t'}:=by
 have nit:∀b u,H b=some u->b≠it:=λb u e z=>by rw[z,hn] at e;cases e
 refine I.step (g':=s.gens) (d':=s.drawn) (ch:=[it]) (λb hb=>?_) (λb o _ _ hc e _=>k b o (λz=>hc (by simp[z])) e) (λb o _ _ hc e _=>⟨o.slots,k b o (λz=>hc (by simp[z])) e⟩) (λ_ _ _ _ n=>n)
  (λb o hc e=>⟨o,k b o (λz=>hc (by simp[z])) e⟩) (λ_ _ e=>e) (λ_ _ _ e=>e) (λb ps e=>⟨#[],by rw[e];simp⟩) (λm hm=>?_) (λb u e=>?_) I.bare
 ·have e:b=it:=by simpa using hb
  subst e;exact⟨h1,hL,h2,h3⟩
 ·obtain⟨o,es,ep,ho,r⟩:=hm;exact⟨o,es,ep,k _ o (Ne.symm hL) ho,r⟩
 ·refine(I.hok b u e).stay (λc v hc q=>k c v ?_ q) (λ_ q=>q) λ_ _ q=>q;rcases hc with z | z
  ·rw[z];exact nit b u e
  ·exact nit c _ z
theorem Inv.tok (I:Inv X pins σ H s)(t:Nat):Inv X pins σ H {s with toks:=t}:=I.un (h':=s.heap) (t':=t) Un.refl I.hok
theorem Inv.kept {t':Nat}(I:Inv X pins σ H s)(k:∀b u,s.heap.get? b=some u->h'.get? b=some u):Inv X pins σ H {s with heap:=h',toks:=t'}:=I.un (Un.kept k) (I.hok.kept k)
def Inv.laid {a:Addr}{o:HO}{t':Nat}(I:Inv X pins σ H s)(k:∀b u,s.heap.get? b=some u->h'.get? b=some u)(hp:s.heap.objs.size<=a)(new:zac X.prog X.w (upd H a o) h' a o):
  Inv X pins σ (upd H a o) {s with heap:=h',toks:=t'}:=I.un (Un.laid k hp (I.hok.fresh hp)) (I.hok.laid k hp new)
def Inv.write {x e:Addr}{o:HO}{t':Nat}(I:Inv X pins σ H s)(mu:Mut (H x))(he:e=x\/H e=some (.own x))(k:∀b u,b≠e->s.heap.get? b=some u->h'.get? b=some u)(heo:∃u,h'.get? e=some u)
  (new:zac X.prog X.w (upd H x o) h' x o):Inv X pins σ (upd H x o) {s with heap:=h',toks:=t'}:=I.un (Un.write mu he k heo) (I.hok.write mu he k heo new)
noncomputable abbrev _root_.Jq:=@List.mem_append_left
def Inv.pins_of {pins':QE}(I:Inv X pins σ H s)(h:∀p∈pins',s.heap.get? p.1=some p.2/\H p.1=none/\p.1≠X.env.locals/\p.1∉X.fs/\∀v,p.2.data≠ .cell v):Inv X pins' σ H s:=
 ⟨I.ok,I.os,I.bare,I.base,I.loc,I.cell,I.free,I.freeC,λp hp=>(List.mem_append.mp hp).elim (λz=>I.pin p (Jq _ z)) (h p),I.hok,I.len⟩
abbrev _root_.QP:=List Str
def zf2 {N:QP}(hN:N.Nodup){i j:Nat}{x:Str}(a:N[i]? =some x)(b:N[j]? =some x):i=j:=by obtain⟨h1,e1⟩:=List.getElem?_eq_some_iff.mp a;obtain⟨h2,e2⟩:=List.getElem?_eq_some_iff.mp b;exact(List.getElem_inj hN).mp (e1.trans e2.symm)
abbrev _root_.QC:=Value->Shared->Prop
abbrev _root_.QD:=Unit->Shared->Prop
noncomputable def zlN {M:Model}{A:Around}{E:QC}{i:Nat}{x:Str}{v:V}{u:Value}{Q:QD}(I:Inv X pins σ H s)(hN:X.N.Nodup)(hi:X.N[i]? =some x)(hx:Loc X.env.scope x)(r:RelV v u)
  (h:∀s',Inv X pins (σ.set i (some v)) H s'->(∃a,Heap.SameBut a s.heap s'.heap/\(a=X.env.locals\/X.env.cells.lookup x=some a))->Q () s') (hf:X.fn x=true\/X.env.scope.names.lookup x=some .local:=by first | exact .inl rfl | exact .inr rfl | assumption):wpAny M A (storeName X.env x u) Q E s:=by
 obtain⟨m,hn,hl⟩:=id I.loc;have hcls:(X.env.scope.kind==.class || (X.env.scope.kind==.module && X.env.locals !=X.env.globals))=false:=by rw[I.ok.kind];rfl
 have hiσ:i < σ.length:=by rw[I.len];exact(List.getElem?_eq_some_iff.mp hi).1
 have cne:=I.cne;have tracked:∀{a:Addr} {h':Heap},(∃o,s.heap.get? a=some o/\H a=none)->Heap.SameBut a s.heap h'->HOk X.prog X.w H h':=λ{a h'} ha hs b ob e=>by
  obtain⟨_,_,hfree⟩:=ha;refine(I.hok b ob e).stay (λc w' hc q=>(hs.2 c ?_).trans q) (λ_ q=>q) λ_ _ q=>q;rintro rfl;rcases hc with rfl | hc
  ·rw[hfree] at e;cases e
  ·rw[hfree] at hc;cases hc
 rcases hx with hk | hk
 ·refine wpAny_storeName_local hk hn (λh' hn' hs=>?_) hcls;obtain⟨oL,_,_,hoL,_⟩:=id hn;refine h _ ⟨I.ok,I.os,I.bare,⟨λb o e n hb hx=>?_,λb o e n hb hx=>?_,I.base.free,λb o e hx=>?_,I.base.tups,I.base.frzs,I.base.tbls⟩,⟨_,hn',λj y v' e1 e2 e3=>?_⟩,λy c e=>?_,I.free,I.freeC,λp hp=>?_,tracked ⟨oL,hoL,I.free⟩ hs,by simpa using I.len⟩ ⟨_,hs,.inl rfl⟩
  ·exact(hs.2 b (Jl (Jg (Heap.lt_size e) I.ok.above))).trans (I.base.keep b o e n hb hx)
  ·obtain⟨sl,e1⟩:=I.base.slot b o e n hb hx;exact⟨sl,(hs.2 b (Jl (Jg (Heap.lt_size e) I.ok.above))).trans e1⟩
  ·obtain⟨o',e1⟩:=I.base.there b o e hx;exact⟨o',(hs.2 b (Jl (Jg (Heap.lt_size e) I.ok.above))).trans e1⟩
  ·by_cases hj:j=i
   ·subst hj;rw[hi] at e1;cases e1;rw[List.getElem?_set_self hiσ] at e2;cases e2;exact⟨u,r,.inl ⟨hk,by simp⟩⟩
   ·rw[List.getElem?_set_ne (Ne.symm hj)] at e2;obtain⟨u',r',q⟩:=hl j y v' e1 e2 e3;refine⟨u',r',?_⟩;rcases q with ⟨k,e⟩ | ⟨k,c,e,z⟩
    ·refine .inl ⟨k,?_⟩;have:y≠x:=λe=>hj (zf2 hN e1 (e ▸ hi));simp[this,e]
    ·exact .inr ⟨k,c,e,z.sameBut hs (cne y c e)⟩
  ·obtain⟨w',z⟩:=I.cell y c e;exact⟨w',z.sameBut hs (cne y c e)⟩
  ·obtain⟨e,n,ne,nf,d⟩:=I.pin p hp;exact⟨(hs.2 p.1 ne).trans e,n,ne,nf,d⟩
 ·have hfn:X.fn x=true:=by
   rcases hf with z | z
   ·exact z
   ·rw[z] at hk;cases hk
  obtain⟨c,hc⟩:=I.ok.has x (.inl hk);obtain⟨w',z⟩:=I.cell x c hc;refine wpAny_storeName_cell I.ok.kind hk hc z (λh' hc' hs=>?_);obtain⟨oc,hoc,hocd⟩:=id z;refine h {s with heap:=h'} ⟨I.ok,I.os,I.bare,⟨λb o e n hb hx=>?_,λb o e n hb hx=>?_,I.base.free,λb o e hx=>?_,I.base.tups,I.base.frzs,I.base.tbls⟩,⟨m,hn.sameBut hs (Ne.symm (cne x c hc)),λj y v' e1 e2 e3=>?_⟩,λy c' e=>?_,I.free,I.freeC,λp hp=>?_,tracked ⟨oc,hoc,I.freeC x c hc⟩ hs,by simpa using I.len⟩ ⟨c,hs,.inr hc⟩
  ·exact(hs.2 b (Jl (Jg (Heap.lt_size e) (I.ok.cab x c hfn hc)))).trans (I.base.keep b o e n hb hx)
  ·obtain⟨sl,e1⟩:=I.base.slot b o e n hb hx;exact⟨sl,(hs.2 b (Jl (Jg (Heap.lt_size e) (I.ok.cab x c hfn hc)))).trans e1⟩
  ·obtain⟨o',e1⟩:=I.base.there b o e hx;exact⟨o',(hs.2 b (Jl (Jg (Heap.lt_size e) (I.ok.cab x c hfn hc)))).trans e1⟩
  ·by_cases hj:j=i
   ·subst hj;rw[hi] at e1;cases e1;rw[List.getElem?_set_self hiσ] at e2;cases e2;exact⟨u,r,.inr ⟨.inl hk,c,hc,hc'⟩⟩
   ·rw[List.getElem?_set_ne (Ne.symm hj)] at e2;obtain⟨u',r',q⟩:=hl j y v' e1 e2 e3;refine⟨u',r',?_⟩;rcases q with q | ⟨k,c',e,z'⟩
    ·exact .inl q
    ·refine .inr ⟨k,c',e,z'.sameBut hs ?_⟩;rintro rfl;exact hj (zf2 hN e1 (I.ok.inj _ _ _ e hc ▸ hi))
  ·by_cases hcc:c'=c
   ·subst hcc;exact⟨_,hc'⟩
   ·obtain⟨w2,z2⟩:=I.cell y c' e;exact⟨w2,z2.sameBut hs hcc⟩
  ·obtain⟨e,n,ne,nf,d⟩:=I.pin p hp;refine⟨(hs.2 p.1 ?_).trans e,n,ne,nf,d⟩;intro q;rw[q,hoc] at e;have q':oc=p.2:=Option.some.inj e;exact d w' (by rw[<-q'];exact hocd)
def zfY {M:Model}{A:Around}{E:QC}{i:Nat}{x:Str}{v:V}{u:Value}{Q:QD}(I:Inv X pins σ H s)(hN:X.N.Nodup)(hi:X.N[i]? =some x)(hx:Loc X.env.scope x)(r:RelV v u)
  (h:∀s',Inv X pins (σ.set i (some v)) H s'->Q () s') (hf:X.fn x=true\/X.env.scope.names.lookup x=some .local:=by first | exact .inl rfl | exact .inr rfl | assumption):wpAny M A (storeName X.env x u) Q E s:=
 zlN I hN hi hx r (λs' I' _=>h s' I') hf
def Inv.call' {s':Shared}{ch:QO}(I:Inv X pins σ H s)(ho:s'.os=s.os)(u:Un (frs X.stack) ch H H' s.heap s'.heap)(hok:HOk X.prog X.w H' s'.heap)(hg:AllBare s'.gens)
  (hch:∀b∈ch,(b∈X.ex\/X.s₀.heap.objs.size<=b)/\b≠X.env.locals/\(∀x c,X.env.cells.lookup x=some c->c≠b)/\∀p∈X.pn++pins,p.1≠b):Inv X pins σ H' s':=by
 obtain⟨h',g',d',t',o'⟩:=s';have e:o'=s.os:=ho;subst e;exact I.call (g':=g') (t':=t') (d':=d') u hok hg hch
end
abbrev XK:=Value->Option Addr->Hp->Prop
abbrev St:=List (Option V)
abbrev VK:=V->Hp->Prop
abbrev TE:=St->Hp->VK->Prop
abbrev TT:=St->Hp->(Bool->Hp->Prop)->Prop
abbrev TA:=St->Hp->(List V->Hp->Prop)->Prop
structure Ends where
 nx:St->Hp->Prop
 rt:VK
 bk:St->Hp->Prop:=λ_ _=>False
 ct:St->Hp->Prop:=λ_ _=>False
abbrev TS:=Ends->St->Hp->Prop
def EP (X:Cx)(pins:QE)(σ:St)(Q:VK)(u:Value)(s':Shared):Prop:=∃v H',Inv X pins σ H' s'/\RelV v u/\Q v H'
def TP (X:Cx)(pins:QE)(σ:St)(Q:Bool->Hp->Prop)(b:Bool)(s':Shared):Prop:=∃H',Inv X pins σ H' s'/\Q b H'
def AP (X:Cx)(pins:QE)(σ:St)(Q:List V->Hp->Prop)(us:QN)(s':Shared):Prop:=∃vs H',Inv X pins σ H' s'/\Vals vs us/\Q vs H'
def SP (X:Cx)(pins:QE)(D:Ends)(f:Flow)(s':Shared):Prop:=
 match f with
 | .next=>∃σ' H',Inv X pins σ' H' s'/\D.nx σ' H'
 | .brk=>∃σ' H',Inv X pins σ' H' s'/\D.bk σ' H'
 | .cont=>∃σ' H',Inv X pins σ' H' s'/\D.ct σ' H'
 | .ret u=>∃v σ' H',Inv X pins σ' H' s'/\RelV v u/\D.rt v H'
def PE (X:Cx)(e:Expr)(t:TE):Prop:=
 ∀(pins:QE) (s:Shared) (σ:St) (H:Hp) (Q:VK),Inv X pins σ H s->t σ H Q->wpAny (model X.prog X.w) X.A (eval e X.env) (EP X pins σ Q) X.xe s
def PT (X:Cx)(e:Expr)(t:TT):Prop:=
 ∀(pins:QE) (s:Shared) (σ:St) (H:Hp) (Q:Bool->Hp->Prop),Inv X pins σ H s->t σ H Q->wpAny (model X.prog X.w) X.A (isTrue e X.env (eval e X.env)) (TP X pins σ Q) X.xe s
def PW (X:Cx)(e:Expr)(t:TT):Prop:=
 ∀(whole:Sem Value) (pins:QE) (s:Shared) (σ:St) (H:Hp) (Q:Bool->Hp->Prop),Inv X pins σ H s->t σ H Q->wpAny (model X.prog X.w) X.A (isTrue e X.env whole) (TP X pins σ Q) X.xe s
def PW.pt {X:Cx}{e:Expr}{t:TT}(h:PW X e t):PT X e t:=h _
def PA (X:Cx)(es:List Expr)(t:TA):Prop:=
 ∀(pos:Pos) (pins:QE) (s:Shared) (σ:St) (H:Hp) (Q:List V->Hp->Prop),Inv X pins σ H s->t σ H Q->wpAny (model X.prog X.w) X.A (spliced (backTo pos (starEach es X.env))) (AP X pins σ Q) X.xe s
def PS (X:Cx)(st:Stmt)(t:TS):Prop:=
 ∀(pins:QE) (s:Shared) (σ:St) (H:Hp) (D:Ends),Inv X pins σ H s->t D σ H->wpAny (model X.prog X.w) X.A (exec st X.env) (SP X pins D) X.xe s
def PSs (X:Cx)(st:List Stmt)(t:TS):Prop:=
 ∀(pins:QE) (s:Shared) (σ:St) (H:Hp) (D:Ends),Inv X pins σ H s->t D σ H->wpAny (model X.prog X.w) X.A (execs st X.env) (SP X pins D) X.xe s
def thn {α:Type}{t:Sem α}{Q Q':α->Shared->Prop}{M:Model}{A:Around}{E:QC}{s:Shared}(h:wpAny M A t Q E s)(hQ:∀a s,Q a s->Q' a s):wpAny M A t Q' E s:=wpAny_mono h hQ λ_ _ x=>x
section
variable {X:Cx}
def bin {a b:Expr}{ta tb:TE}(ha:PE X a ta)(hb:PE X b tb){pins:QE}{s:Shared}{σ:St}{H:Hp}{R:V->V->Hp->Prop}(I:Inv X pins σ H s)(h:ta σ H λx H1=>tb σ H1 λy H2=>R x y H2)
  {α:Type} {Q:α->Shared->Prop} {f:Value->Value->Sem α}
  (hf:∀v u s2 x y H2,Inv X pins σ H2 s2->RelV x v->RelV y u->R x y H2->wpAny (model X.prog X.w) X.A (f v u) Q X.xe s2):
  wpAny (model X.prog X.w) X.A (eval a X.env) (λv s₁=>wpAny (model X.prog X.w) X.A (eval b X.env) (λu s₂=>wpAny (model X.prog X.w) X.A (f v u) Q X.xe s₂) X.xe s₁) X.xe s:=by
 refine thn (ha pins s σ H _ I h) λv s1 ⟨x,H1,I1,r1,q1⟩=>?_;refine thn (hb pins s1 σ H1 _ I1 q1) λu s2 ⟨y,H2,I2,r2,q2⟩=>?_;exact hf v u s2 x y H2 I2 r1 r2 q2
def tVar (i:Nat):TE:=fun σ H Q=>∃v,σ[i]? =some (some v)/\Q v H
def tC (v:V):TE:=λ_ H Q=>Q v H
noncomputable def zq2 {i:Nat}{x:Str}{pos:Pos}(hN:X.N[i]? =some x)(hv:Vis X.env.scope x)(hd:(x==("__debug__" :Str))=false:=by decide) (hcd:(x==("__classdict__" :Str))=false:=by decide):PE X (.Name x pos) (tVar i):=by
 intro pins s σ H Q I h;obtain⟨v,e,h⟩:=h;obtain⟨m,hn,hl⟩:=I.loc;obtain⟨u,r,l⟩:=hl i x v hN e hv;have fin:EP X pins σ Q u s:=⟨v,H,I,r,h⟩;rcases l with ⟨hk,hm⟩ | ⟨hk,c,hc,hcell⟩
 ·exact wpAny_Name (wpAny_loadName_local I.ok.kind hk hn hm fin) hd
 ·rcases hk with hk | hk
  ·exact wpAny_Name (wpAny_loadName_cell I.ok.kind hk hc hcell fin) hd
  ·exact wpAny_Name (wpAny_loadName_free I.ok.kind hk hc hcell fin hcd) hd
def zo {i j pos}:PE X (.Constant (.int i) j pos) (tC (.int i)):=λ_ _ _ H _ I h=>wpAny_Constant_int ⟨.int i,H,I.tok _,⟨_,rfl⟩,h⟩
def zb2 {b j pos}:PE X (.Constant (.bool b) j pos) (tC (.bl b)):=λ_ _ _ H _ I h=>Constant_bool ⟨.bl b,H,I,rfl,h⟩
def zch {j pos}:PE X (.Constant .none j pos) (tC .non):=λ_ _ _ H _ I h=>Constant_none ⟨.non,H,I,rfl,h⟩
def zam {x j pos}:PE X (.Constant (.str x) j pos) (tC (.str x)):=λ_ _ _ H _ I h=>Calls.Constant_str ⟨.str x,H,I.tok _,⟨_,rfl⟩,h⟩
def Gl (X:Cx)(x:Str):Prop:=X.env.kindOf x=some .globalImplicit
def zba {E:QC}{pins:QE}{s:Shared}{σ:St}{H:Hp}{x:Str}{u:Value}{pos:Pos}{Q:QC}(I:Inv X pins σ H s)(hg:Gl X x)(hm:X.mg x=some u)(h:Q u s)
  (hd:(x==("__debug__" :Str))=false:=by decide):wpAny (model X.prog X.w) X.A (eval (.Name x pos) X.env) Q E s:=
 Calls.Name_function_global I.ok.kind hg (Calls.loadGlobal_global (by rw[I.ok.glob];exact I.mod.glob.keeps I.bk) hm h) hd
def zda {E:QC}{pins:QE}{s:Shared}{σ:St}{H:Hp}{x:Str}{u:Value}{pos:Pos}{Q:QC}(I:Inv X pins σ H s)(hg:Gl X x)(hm:X.mg x=none)(hv:bootBuiltins x=some u)(h:Q u s)
  (hn:x≠ "__name__" :=by decide) (hd:(x==("__debug__" :Str))=false:=by decide):wpAny (model X.prog X.w) X.A (eval (.Name x pos) X.env) Q E s:=by
 obtain⟨mb,h1,h2⟩:=I.mod.blt;exact Calls.Name_function_global I.ok.kind hg (Calls.loadGlobal_builtin (by rw[I.ok.glob];exact I.mod.glob.keeps I.bk) hm (by rw[I.ok.blt];exact h1.keeps I.bk) ((h2 x hn).trans hv) h) hd
def zx {x:Str}{v:V}{u:Value}{pos:Pos}(hg:Gl X x)(hm:X.mg x=some u)(r:RelV v u)(hd:(x==("__debug__" :Str))=false:=by decide):PE X (.Name x pos) (tC v):=
 λ_ _ _ H _ I h=>zba I hg hm ⟨v,H,I,r,h⟩ hd
def zaV {x:Str}{v:V}{u:Value}{pos:Pos}(hg:Gl X x)(hm:X.mg x=none)(hv:bootBuiltins x=some u)(r:RelV v u)(hn:x≠ "__name__" :=by decide) (hd:(x==("__debug__" :Str))=false:=by decide):PE X (.Name x pos) (tC v):=
 λ_ _ _ H _ I h=>zda I hg hm hv ⟨v,H,I,r,h⟩ hn hd
variable {a b:Expr}{ta tb:TE}{pos:Pos}
def PC (X:Cx)(op:CmpOp)(a b:Expr)(t:TE):Prop:=
 ∀(pins:QE) (s:Shared) (σ:St) (H:Hp) (Q:VK),Inv X pins σ H s->t σ H Q->
  wpAny (model X.prog X.w) X.A (eval a X.env) (λv s₁=>wpAny (model X.prog X.w) X.A (eval b X.env) (λu s₂=>wpAny (model X.prog X.w) X.A (compareOp op v u) (EP X pins σ Q) X.xe s₂) X.xe s₁) X.xe s
def znX (b:Expr){op:CmpOp}(h:op≠ .In)(h2:op≠ .NotIn):behindInMarks op b=false:=by
 have e1:(op==CmpOp.In)=false:=by cases op <;> first | rfl | exact Jh rfl h
 have e2:(op==CmpOp.NotIn)=false:=by cases op <;> first | rfl | exact Jh rfl h2
 cases b <;> simp[behindInMarks,e1,e2]
def tB (t:TE):TT:=fun σ H Q=>t σ H λx H1=>∃c,x=.bl c/\Q c H1
noncomputable def zgN {op:CmpOp}{t:TE}(h:PC X op a b t)(h1:behindInMarks op b=false:=by first | exact znX _ (by decide) (by decide) | rfl):PT X (.Compare a [op] [b] pos) (tB t):=by intro pins s σ H Q I hw;refine wpAny_isTrue_Compare1 (thn (h pins s σ H _ I hw) λv s1 h1=>thn h1 λu s2 h2=>thn h2 λc s3 ⟨x,H1,I1,r1,q1⟩=>?_) h1;obtain⟨d,rfl,q⟩:=q1;cases r1;exact wpAny_truthy_bool ⟨H1,I1,q⟩
noncomputable def zah {e:Expr}{t:TE}(h:PE X e t)(he:∀whole,isTrue e X.env whole=(do let v<-whole;standAt e.pos;holding [v] (truthy v)):=by intro _;rfl):PT X e (tB t):=by intro pins s σ H Q I hw;refine isTrue_plain (thn (h pins s σ H _ I hw) λv s1 ⟨x,H1,I1,r1,q1⟩=>?_) (he _);obtain⟨d,rfl,q⟩:=q1;cases r1;exact wpAny_truthy_bool ⟨H1,I1,q⟩
variable {tA tB':TT}{rest:List Expr}
def tAnd (t u:TT):TT:=fun σ H Q=>t σ H λc H1=>if c=true then u σ H1 Q else Q false H1
def tOr (t u:TT):TT:=fun σ H Q=>t σ H λc H1=>if c=true then Q true H1 else u σ H1 Q
def tNot (t:TT):TT:=fun σ H Q=>t σ H λc H1=>Q (!c) H1
def zex (ha:PT X a tA):PW X (.BoolOp .And [a] pos) tA:=by
 intro wh pins s σ H Q I h;refine isTrue_and (thn (ha pins s σ H Q I h) λc s1 e=>?_);cases c with
 | true=>exact isTrue_and_nil e
 | false=>exact e
def zdp (ha:PT X a tA):PW X (.BoolOp .Or [a] pos) tA:=by
 intro wh pins s σ H Q I h;refine isTrue_or (thn (ha pins s σ H Q I h) λc s1 e=>?_);cases c with
 | false=>exact isTrue_or_nil e
 | true=>exact e
def zgA (ha:PT X a tA)(hb:PW X (.BoolOp .And (b::rest) pos) tB'):PW X (.BoolOp .And (a::b::rest) pos) (tAnd tA tB'):=by
 intro wh pins s σ H Q I h;refine isTrue_and (thn (ha pins s σ H _ I h) λc s1 ⟨H1,I1,q1⟩=>?_);cases c with
 | true=>exact hb wh pins s1 σ H1 Q I1 q1
 | false=>exact⟨H1,I1,q1⟩
def zfu (ha:PT X a tA)(hb:PW X (.BoolOp .Or (b::rest) pos) tB'):PW X (.BoolOp .Or (a::b::rest) pos) (tOr tA tB'):=by
 intro wh pins s σ H Q I h;refine isTrue_or (thn (ha pins s σ H _ I h) λc s1 ⟨H1,I1,q1⟩=>?_);cases c with
 | true=>exact⟨H1,I1,q1⟩
 | false=>exact hb wh pins s1 σ H1 Q I1 q1
def zc1 (ha:PT X a tA):PT X (.UnaryOp .Not a pos) (tNot tA):=by intro pins s σ H Q I h;exact isTrue_not (ha pins s σ H (λc H1=>Q (!c) H1) I h)
def zrz (ta tb:TE):TE:=fun σ H Q=>ta σ H λx H1=>∃c,x=.bl c/\if c=true then tb σ H1 Q else Q (.bl false) H1
def zrv (ta:TE):TE:=fun σ H Q=>ta σ H λx H1=>∃c,x=.bl c/\Q (.bl (!c)) H1
def zdV {op}{t:TE}(h:PE X a t):PE X (.BoolOp op [a] pos) t:=λpins s σ H Q I hw=>BoolOp_one (h pins s σ H Q I hw)
def zdW (ha:PE X a ta)(hb:PE X (.BoolOp .And (b::rest) pos) tb):PE X (.BoolOp .And (a::b::rest) pos) (zrz ta tb):=by
 intro pins s σ H Q I h;refine BoolOp_and (thn (ha pins s σ H _ I h) λv s1 ⟨x,H1,I1,r1,q1⟩=>?_);obtain⟨c,rfl,q1⟩:=q1;cases r1;refine wpAny_truthy_bool ?_;cases c with
 | true=>exact hb pins s1 σ H1 Q I1 q1
 | false=>exact⟨.bl false,H1,I1,rfl,q1⟩
def zng (ha:PE X a ta):PE X (.UnaryOp .Not a pos) (zrv ta):=by intro pins s σ H Q I h;refine UnaryOp_ (thn (ha pins s σ H _ I h) λv s1 ⟨x,H1,I1,r1,q1⟩=>?_);obtain⟨c,rfl,q1⟩:=q1;cases r1;exact not_of (wpAny_truthy_bool ⟨.bl (!c),H1,I1,rfl,q1⟩)
def tIf (t:TT)(ta tb:TE):TE:=fun σ H Q=>t σ H λc H1=>if c=true then ta σ H1 Q else tb σ H1 Q
def zew {c:Expr}(hc:PT X c tA)(ha:PE X a ta)(hb:PE X b tb):PE X (.IfExp c a b pos) (tIf tA ta tb):=by
 intro pins s σ H Q I h;refine wpAny_IfExp (thn (hc pins s σ H _ I h) λd s1 ⟨H1,I1,q1⟩=>?_);cases d with
 | true=>exact ha pins s1 σ H1 Q I1 q1
 | false=>exact hb pins s1 σ H1 Q I1 q1
end
def SqL (K:QA)(H:Hp)(a:Addr)(xs:QQ):Prop:=
 Rd H a (.lst xs)\/
  ∃(o:Obj) (its:Array Value) (n:Nat),K.lookup a=some o/\o.cls=.type "list" /\o.dict=none/\o.data=.seq its n/\its.size<=sizeLine/\Vals xs its.toList
def SqT (K:QA)(H:Hp)(a:Addr)(xs:QQ):Prop:=
 Rd H a (.tup xs)\/
  ∃(o:Obj) (its:Array Value) (n:Nat),K.lookup a=some o/\o.cls=.type "tuple" /\o.data=.seq its n/\its.size<=sizeLine/\Vals xs its.toList
def absV:Value->Option V
 | .none=>some .non
 | .bool b=>some (.bl b)
 | .int i _=>some (.int i)
 | .str x _=>some (.str x)
 | .bytes b _=>some (.byt b)
 | .float b _=>some (.flt b)
 | .ref a=>some (.ref a)
 | .type n=>some (.ty n)
 | _=>none
def RelV.abs {x:V}{u:Value}(r:RelV x u):absV u=some x:=by
 cases x with
 | non=>cases r;rfl
 | bl _=>cases r;rfl
 | int _=>obtain⟨t,rfl⟩:=r;rfl
 | str _=>obtain⟨t,rfl⟩:=r;rfl
 | byt _=>obtain⟨t,rfl⟩:=r;rfl
 | flt _=>obtain⟨t,rfl⟩:=r;rfl
 | ref _=>cases r;rfl
 | ty _=>cases r;rfl
theorem RelV.inj {x y:V}{u:Value}(r:RelV x u)(q:RelV y u):x=y:=Option.some.inj (r.abs.symm.trans q.abs)
theorem Vals.inj:∀{xs ys:QQ} {us:QN},Vals xs us->Vals ys us->xs=ys
 | _,_,_,.nil,.nil=>rfl
 | _,_,_,.cons r t,.cons r' t'=>by rw[r.inj r',Vals.inj t t']
section
variable {X:Cx}{pins:QE}{σ:St}{H:Hp}{s:Shared}{a:Addr}{xs ys:QQ}
theorem SqL.of {K:QA}(h:H a=some (.lst xs)):SqL K H a xs:=.inl (.inl h)
theorem SqT.of {K:QA}(h:H a=some (.tup xs)):SqT K H a xs:=.inl (.inl h)
def Inv.list (I:Inv X pins σ H s)(h:SqL X.K H a xs):∃its:List Value,Vals xs its/\PlainL s.heap a its.toArray/\xs.length<=sizeLine:=by
 rcases h with h | ⟨o,its,n,hk,hc,hd,hs,hz,r⟩
 ·obtain⟨z,its,n,r,e⟩:=h.ok I.hok;exact⟨its,r,⟨_,n,e,rfl,rfl,rfl⟩,z⟩
 ·refine⟨its.toList,r,⟨o,n,I.kIn a o hk,hc,hd,by simpa using hs⟩,?_⟩;have e:=r.length;simp only[Array.length_toList] at e;omega
def Inv.tuple (I:Inv X pins σ H s)(h:SqT X.K H a xs):∃its:List Value,Vals xs its/\IsTup s.heap a its.toArray/\xs.length<=sizeLine:=by
 rcases h with h | ⟨o,its,n,hk,hc,hs,hz,r⟩
 ·obtain⟨z,its,r,p⟩:=h.ok I.hok;exact⟨its,r,p,z⟩
 ·refine⟨its.toList,r,⟨o,I.kIn a o hk,hc,n,by simpa using hs⟩,?_⟩;have e:=r.length;simp only[Array.length_toList] at e;omega
theorem Inv.list_inj (I:Inv X pins σ H s)(h:SqL X.K H a xs)(h':SqL X.K H a ys):xs=ys:=by
 obtain⟨its,r,⟨o,n,e,_,_,d⟩,_⟩:=I.list h;obtain⟨its',r',⟨o',n',e',_,_,d'⟩,_⟩:=I.list h';rw[e] at e';cases e';rw[d] at d';injection d' with d1 _
 have:its=its':=by simpa using congrArg Array.toList d1
 subst this;exact r.inj r'
theorem Inv.tuple_inj (I:Inv X pins σ H s)(h:SqT X.K H a xs)(h':SqT X.K H a ys):xs=ys:=by
 obtain⟨its,r,⟨o,e,_,n,d⟩,_⟩:=I.tuple h;obtain⟨its',r',⟨o',e',_,n',d'⟩,_⟩:=I.tuple h';rw[e] at e';cases e';rw[d] at d';injection d' with d1 _
 have:its=its':=by simpa using congrArg Array.toList d1
 subst this;exact r.inj r'
end
abbrev Cx.wish (X:Cx)(E:QC):Cx:={X with xe:=E}
abbrev Cx.nox (X:Cx):Cx:=X.wish λ_ _=>False
def Cx.Ok.wish {X:Cx}(ok:X.Ok)(E:QC):(X.wish E).Ok:=
 ⟨ok.mod,ok.kind,ok.glob,ok.blt,ok.above,ok.inj,ok.has,ok.cab,ok.hd,ok.frames,ok.stk,ok.exf,ok.bs,ok.bsz,ok.noex,ok.exfs,ok.funs,ok.frf⟩
def Cx.Ok.unwish {X:Cx}{E:QC}(ok:(X.wish E).Ok):X.Ok:=
 ⟨ok.mod,ok.kind,ok.glob,ok.blt,ok.above,ok.inj,ok.has,ok.cab,ok.hd,ok.frames,ok.stk,ok.exf,ok.bs,ok.bsz,ok.noex,ok.exfs,ok.funs,ok.frf⟩
section
variable {X:Cx}{pins:QE}{σ:St}{H:Hp}{s:Shared}{E:QC}
def Inv.wish (I:Inv X pins σ H s)(E:QC):Inv (X.wish E) pins σ H s:=⟨I.ok.wish E,I.os,I.bare,I.base,I.loc,I.cell,I.free,I.freeC,I.pin,I.hok,I.len⟩
def Inv.unwish (I:Inv (X.wish E) pins σ H s):Inv X pins σ H s:=⟨I.ok.unwish,I.os,I.bare,I.base,I.loc,I.cell,I.free,I.freeC,I.pin,I.hok,I.len⟩
def SP.unwish {D:Ends}{f:Flow}{s':Shared}(h:SP (X.wish E) pins D f s'):SP X pins D f s':=by
 cases f with
 | next=>obtain⟨σ',H',I,q⟩:=h;exact⟨σ',H',I.unwish,q⟩
 | brk=>obtain⟨σ',H',I,q⟩:=h;exact⟨σ',H',I.unwish,q⟩
 | cont=>obtain⟨σ',H',I,q⟩:=h;exact⟨σ',H',I.unwish,q⟩
 | ret u=>obtain⟨v,σ',H',I,r,q⟩:=h;exact⟨v,σ',H',I.unwish,r,q⟩
def PSs.nox {st:List Stmt}{t:TS}(h:PSs X.nox st t):PSs X st t:=λpins s σ H D I hw=>
 wpAny_mono (h pins s σ H D (I.wish _) hw) (λ_ _ q=>q.unwish) λ_ _ z=>False.elim z
end
section
variable {X:Cx}{st:Stmt}{rest:List Stmt}{t u:TS}{e:Expr}{te:TE}{pos:Pos}
def znh:TS:=λD σ H=>D.nx σ H
def tSeq (t u:TS):TS:=λD σ H=>t {D with nx:=u D} σ H
def zy:PSs X [] znh:=λ_ _ σ H _ I h=>wpAny_execs_nil ⟨σ,H,I,h⟩
def zb (h1:PS X st t)(h2:PSs X rest u):PSs X (st::rest) (tSeq t u):=by
 intro pins s σ H D I h;refine wpAny_execs_cons (thn (h1 pins s σ H {D with nx:=u D} I h) λf s1 q=>?_);cases f with
 | next=>obtain⟨σ',H',I',q⟩:=q;exact h2 pins s1 σ' H' D I' q
 | ret v=>exact q
 | brk=>exact q
 | cont=>exact q
def zd (h1:PS X st t):PSs X [st] t:=by
 intro pins s σ H D I h;refine wpAny_execs_cons (thn (h1 pins s σ H D I h) λf s1 q=>?_);cases f with
 | next=>exact wpAny_execs_nil q
 | ret v=>exact q
 | brk=>exact q
 | cont=>exact q
def zpn:PS X (.Pass pos) znh:=λ_ _ σ H _ I h=>wpAny_Pass ⟨σ,H,I,h⟩
def Inv.quiet {pins:QE}{σ:St}{H:Hp}{s:Shared}(I:Inv X pins σ H s):interactive X.env=false:=by simp[interactive,I.ok.kind]
def zrM (te:TE):TS:=λD σ H=>te σ H λ_ H1=>D.nx σ H1
def zax (he:PE X e te)(hs:swapsWith e none pos.line X.env=pure false:=by rfl):PS X (.Expr e pos) (zrM te):=by intro pins s σ H D I h;exact wpAny_Expr_any (thn (he pins s σ H _ I h) λv s1 ⟨x,H1,I1,r1,q1⟩=>⟨σ,H1,I1,q1⟩) I.quiet hs
def tRet (te:TE):TS:=λD σ H=>te σ H D.rt
def zq (he:PE X e te):PS X (.Return (some e) pos) (tRet te):=by intro pins s σ H D I h;exact wpAny_Return_some (thn (he pins s σ H _ I h) λv s1 ⟨x,H1,I1,r1,q1⟩=>⟨x,σ,H1,I1,r1,q1⟩)
def tIfS (c:TT)(t u:TS):TS:=λD σ H=>c σ H λb H1=>if b=true then t D σ H1 else u D σ H1
def zN {c:Expr}{a b:List Stmt}{tc:TT}(hc:PT X c tc)(ha:PSs X a t)(hb:PSs X b u):PS X (.If c a b pos) (tIfS tc t u):=by
 intro pins s σ H D I h;refine wpAny_If (thn (hc pins s σ H _ I h) λd s1 ⟨H1,I1,q1⟩=>?_);cases d with
 | true=>exact ha pins s1 σ H1 D I1 q1
 | false=>exact hb pins s1 σ H1 D I1 q1
def zqg:TS:=λ_ _ _=>False
def zmZ:PS X st zqg:=λ_ _ _ _ _ _ h=>h.elim
end
abbrev TG:=V->St->Hp->(St->Hp->Prop)->Prop
abbrev TGs:=List V->St->Hp->(St->Hp->Prop)->Prop
def PG (X:Cx)(target:Expr)(t:TG):Prop:=
 ∀(pins:QE) (s:Shared) (σ:St) (H:Hp) (v:V) (u:Value) (Q:St->Hp->Prop),Inv X pins σ H s->RelV v u->t v σ H Q->
  wpAny (model X.prog X.w) X.A (assign target X.env u) (λ_ s'=>∃σ' H',Inv X pins σ' H' s'/\Q σ' H') X.xe s
def PGs (X:Cx)(ts:List Expr)(t:TGs):Prop:=
 ∀(pins:QE) (s:Shared) (σ:St) (H:Hp) (vs:QQ) (us:QN) (Q:St->Hp->Prop),Inv X pins σ H s->Vals vs us->t vs σ H Q->
  wpAny (model X.prog X.w) X.A (assignInOrder ((assignEach ts X.env).map (·.2)) us) (λ_ s'=>∃σ' H',Inv X pins σ' H' s'/\Q σ' H') X.xe s
section
variable {X:Cx}{pos:Pos}
def zdR (i:Nat):TG:=λv σ H Q=>Q (σ.set i (some v)) H
def zZ {i:Nat}{x:Str}(hN:X.N.Nodup)(hi:X.N[i]? =some x)(hx:Loc X.env.scope x)(hf:X.fn x=true\/X.env.scope.names.lookup x=some .local:=by first | exact .inl rfl | exact .inr rfl | assumption):PG X (.Name x pos) (zdR i):=by intro pins s σ H v u Q I r h;exact wpAny_assign_Name (zfY I hN hi hx r (λs' I'=>⟨_,H,I',h⟩) hf)
def gNil:TGs:=λvs σ H Q=>vs=[]/\Q σ H
def zrA (t:TG)(u:TGs):TGs:=λvs σ H Q=>∃v r,vs=v::r/\t v σ H fun σ' H'=>u r σ' H' Q
def zia:PGs X [] gNil:=by intro pins s σ H vs us Q I r h;obtain⟨e,h⟩:=h;subst e;cases r;exact assignInOrder_nil ⟨σ,H,I,h⟩
def zcF {e:Expr}{es:List Expr}{t:TG}{u:TGs}(h1:PG X e t)(h2:PGs X es u)
  (hs:(assignEach (e::es) X.env).map (·.2)=assign e X.env::(assignEach es X.env).map (·.2):=by rfl):PGs X (e::es) (zrA t u):=by
 intro pins s σ H vs us Q I r h;obtain⟨v,vr,e1,h⟩:=h;subst e1;cases r with
 | cons r rr=>rw[hs];refine assignInOrder_cons (thn (h1 pins s σ H _ _ _ I r h) λ_ s1 ⟨σ1,H1,I1,q1⟩=>?_);exact h2 pins s1 σ1 H1 _ _ Q I1 rr q1
def gTup (K:QA)(n:Nat)(t:TGs):TG:=λv σ H Q=>∃a xs,v=.ref a/\SqT K H a xs/\xs.length=n/\t xs σ H Q
def zjp {es:List Expr}{k:Nat}{t:TGs}{n:Nat}(hc:X.calm=true)(h:PGs X es t)
  (hn:(assignEach es X.env).length=n:=by rfl) (hst:(assignEach es X.env).findIdx? (·.1)=none:=by rfl):PG X (.Tuple es k pos) (gTup X.K n t):=by
 intro pins s σ H v u Q I r hw;obtain⟨a,xs,e1,hq,hl,hw⟩:=hw;subst e1;cases r;obtain⟨its,rv,ht,hz⟩:=I.tuple hq;refine assign_Tuple_tuple (I.ok.hd hc) ht (by simp[hn,<-hl,rv.length]) hst λh' hx=>?_;have I1:Inv X pins σ H {s with heap:=h'}:=I.kept (t':=s.toks) λb o e=>hx b o (Jl (Heap.lt_size e)) e;exact h pins _ σ H xs _ Q I1 (by simpa using rv) hw
def tAsg (te:TE)(g:TG):TS:=λD σ H=>te σ H λx H1=>g x σ H1 D.nx
def zqr {tg e:Expr}{te:TE}{g:TG}(he:PE X e te)(hg:PG X tg g)(hs:swapsWithSole [tg] e pos.line X.env=pure false:=by rfl)(hw:swappedStores [tg] e X.env=pure none:=by rfl)
  (h1:(assignEach [tg] X.env).map (·.2)=[assign tg X.env]:=by rfl):PS X (.Assign [tg] e pos) (tAsg te g):=by
 intro pins s σ H D I h;refine wpAny_Assign_stores (thn (he pins s σ H _ I h) λv s1 ⟨x,H1,I1,r1,q1⟩=>?_) hs hw;rw[h1];exact thn (hg pins s1 σ H1 x v _ I1 r1 q1) λ_ s2 q=>q
def zu {i:Nat}{x:Str}{e:Expr}{te:TE}{pos':Pos}(hN:X.N.Nodup)(hi:X.N[i]? =some x)(hx:Loc X.env.scope x)(he:PE X e te)(hs:swapsWith e (some (.Name x pos')) pos.line X.env=pure false:=by rfl)(hf:X.fn x=true\/X.env.scope.names.lookup x=some .local:=by first | exact .inl rfl | exact .inr rfl | assumption):
  PS X (.Assign [.Name x pos'] e pos) (tAsg te (zdR i)):=by
 intro pins s σ H D I h;refine wpAny_Assign_Name (thn (he pins s σ H _ I h) λv s1 ⟨y,H1,I1,r1,q1⟩=>?_) hs;exact zfY I1 hN hi hx r1 (λs2 I2=>⟨_,H1,I2,q1⟩) hf
def zqN (c:TT)(tb:TS):TS:=λD σ H=>∃W:Nat->St->Hp->Prop,(∃m,W m σ H)/\∀m σ H,W m σ H->
 c σ H λb H1=>if b=true then∃N:St->Hp->Prop,(∀σ' H',N σ' H'->∃m',m' < m/\W m' σ' H')/\tb {D with nx:=N,ct:=N,bk:=D.nx} σ H1 else D.nx σ H1
noncomputable abbrev _root_.Jf:=@Bool.false_ne_true
def ziG {c:Expr}{body:List Stmt}{tc:TT}{tb:TS}(hp:PassesOwn (model X.prog X.w) X.A X.env X.xe)(hc:PT X c tc)(hb:PSs X body tb):PS X (.While c body [] pos) (zqN tc tb):=by
 intro pins s σ H D I h;obtain⟨W,⟨m0,w0⟩,turn⟩:=h;refine wpAny_While (codeAny_whileLoop (λn s'=>∃σ' H',Inv X pins σ' H' s'/\W n σ' H') ?_ m0 ⟨σ,H,I,w0⟩);rintro n s1 ⟨σ1,H1,I1,w1⟩;refine wpAny_passesOwn hp (thn (hc pins s1 σ1 H1 _ I1 (turn n σ1 H1 w1)) λb s2 ⟨H2,I2,q2⟩=>?_);cases b with
 | true=>
  obtain⟨N,hN,q2⟩:=q2;rw[if_pos rfl];refine wpAny_passesOwn hp (thn (hb pins s2 σ1 H2 _ I2 q2) λf s3 q3=>?_);cases f with
  | next=>obtain⟨σ3,H3,I3,n3⟩:=q3;obtain⟨m',hm,w3⟩:=hN σ3 H3 n3;exact⟨m',hm,σ3,H3,I3,w3⟩
  | cont=>obtain⟨σ3,H3,I3,n3⟩:=q3;obtain⟨m',hm,w3⟩:=hN σ3 H3 n3;exact⟨m',hm,σ3,H3,I3,w3⟩
  | brk=>exact q3
  | ret v=>exact q3
 | false=>rw[if_neg Jf];exact wpAny_execs_nil ⟨σ1,H2,I2,q2⟩
end
structure It where
 go:Nat->Hp->Prop
 yld:Nat->Hp->V->Hp->Prop
 stop:Nat->Hp->Prop
def FpOk (X:Cx)(pins:QE)(H:Hp)(b:Addr):Prop:=
 H b=none/\b≠X.env.locals/\b∉X.fs/\(b∈X.ex\/X.s₀.heap.objs.size<=b)/\(∀x c,X.env.cells.lookup x=some c->c≠b)/\∀p∈X.pn++pins,p.1≠b
def Inv.fpOk {X:Cx}{pins:QE}{σ:St}{H H':Hp}{s:Shared}{b:Addr}(I:Inv X pins σ H s)(hb:s.heap.objs.size<=b)(hn:H' b=none):FpOk X pins H' b:=by
 refine⟨hn,Nat.ne_of_gt (Jg I.lt hb),I.nofs hb,.inr (Jk I.sz hb),λx c e z=>?_,λp hp z=>?_⟩
 ·obtain⟨v,q⟩:=I.cell x c e;exact Jh (Jg q.lt (by rw[z];exact hb)) (Jw _)
 ·exact Jh (Jg (Heap.lt_size (I.pin p hp).1) (by rw[z];exact hb)) (Jw _)
structure Turn (P:Program)(w:World)(K:QA)(tg:Expr)(J:It)(fp:QO)(it:Addr)(tn:Nat->Heap->Prop):Prop where
 mem:it∈fp
 obj:∀i h,tn i h->∀b∈fp,∃o,h.get? b=some o/\∀v,o.data≠ .cell v
 keep:∀i h h',tn i h->(∀b∈fp,∀o,h.get? b=some o->h'.get? b=some o)->tn i h'
 item:∀(X:Cx),X.prog=P->X.w=w->X.K=K->X.calm=true->∀(i:Nat) (pins:QE) (s:Shared) (σ:St) (H:Hp) (E:QC),Inv X pins σ H s->(∀b∈fp,FpOk X pins H b)->tn i s.heap->J.go i H->
  wpAny (model P w) X.A (pyNext (.ref it)) (λr s1=>∃u,r=some u/\
   wpAny (model P w) X.A (letOwnedTupleGo tg (.ref it) u) (λ_ s2=>∃x H',Inv X pins σ H' s2/\RelV x u/\J.yld i H x H'/\tn (i+1) s2.heap/\∀b∈fp,H' b=none) E s1) E s
 done:∀(X:Cx),X.prog=P->X.w=w->X.K=K->X.calm=true->∀(i:Nat) (pins:QE) (s:Shared) (σ:St) (H:Hp) (E:QC),Inv X pins σ H s->(∀b∈fp,FpOk X pins H b)->tn i s.heap->J.stop i H->
  wpAny (model P w) X.A (pyNext (.ref it)) (λr s1=>r=none/\Inv X pins σ H s1) E s
 self:∀(A:Around) (i:Nat) (s:Shared) (Q:QC) (E:QC),tn i s.heap->Q (.ref it) s->wpAny (model P w) A (pyIter (.ref it)) Q E s
abbrev TI:=St->Hp->(It->Hp->Prop)->Prop
def PIE (X:Cx)(pins:QE)(σ:St)(tg:Expr)(R:It->Hp->Prop)(itv:Value)(s2:Shared):Prop:=
 ∃(it:Addr) (fp:QO) (tn:Nat->Heap->Prop) (J:It) (H':Hp),itv=.ref it/\Inv X pins σ H' s2/\Turn X.prog X.w X.K tg J fp it tn/\tn 0 s2.heap/\(∀b∈fp,FpOk X pins H' b)/\R J H'
def PI (X:Cx)(tg iter:Expr)(wi:TI):Prop:=
 ∀(pins:QE) (s:Shared) (σ:St) (H:Hp) (R:It->Hp->Prop),Inv X pins σ H s->wi σ H R->
  wpAny (model X.prog X.w) X.A (eval iter X.env) (λv s1=>wpAny (model X.prog X.w) X.A (pyIter v) (PIE X pins σ tg R) X.xe s1) X.xe s
noncomputable abbrev _root_.Ja:=@wpAny_bind
def zho {M:Model}{A:Around}{E:QC}{s:Shared}{tg:Expr}{it:Addr}{u:Value}{o:Obj}{n:String}{vs:Array Value}{Q:QD}(ho:s.heap.get? it=some o)(hc:o.cls=.type n)(hd:o.data=.fields vs)
  (hn:["enumerate","zip","dict_itemiterator","dict_reverseitemiterator","odict_iterator","itertools.zip_longest","itertools.pairwise"].contains n=false) (hQ:Q () s):wpAny M A (letOwnedTupleGo tg (.ref it) u) Q E s:=by
 unfold letOwnedTupleGo;cases tg <;> first
  | exact wpAny_pure hQ
  | (cases u <;> first
    | exact wpAny_pure hQ
    | (refine Ja (wpAny_load ho ?_)
       rw[hc,hd];show wpAny M A (if (["enumerate","zip","dict_itemiterator","dict_reverseitemiterator","odict_iterator","itertools.zip_longest","itertools.pairwise"].contains n && vs[0]? ==some (rawInt _))=true then _ else _) Q E s;rw[if_neg (by intro h;rw[hn,Bool.false_and] at h;cases h)];exact wpAny_pure hQ))
def Itl (K:QA)(a:Addr):It:=
 ⟨λi H=>∃xs x,SqL K H a xs/\xs[i]? =some x,λi H x H'=>H'=H/\∀xs,SqL K H a xs->xs[i]? =some x,λi H=>∃xs,SqL K H a xs/\xs.length<=i⟩
def Itt (K:QA)(a:Addr):It:=
 ⟨λi H=>∃xs x,SqT K H a xs/\xs[i]? =some x,λi H x H'=>H'=H/\∀xs,SqT K H a xs->xs[i]? =some x,λi H=>∃xs,SqT K H a xs/\xs.length<=i⟩
def Itr (lo:Int)(n:Nat):It:=⟨λi _=>i < n,λi H x H'=>H'=H/\x=.int (lo+i),λi _=>n<=i⟩
def zmd {P:Program}{w:World}{K:QA}{tg:Expr}(a it:Addr):Turn P w K tg (Itl K a) [it] it (λi h=>h.IsListIter it a i) where
 mem:=by simp
 obj:=λi h st b hb=>by
  have e:b=it:=by simpa using hb
  subst e;obtain⟨o,e,c,d⟩:=st;exact⟨o,e,λv z=>by rw[d] at z;cases z⟩
 keep:=λi h h' st k=>st.at λo e=>k it (by simp) o e
 item:=by intro X hP hw hK hc i pins s σ H E I hf st hg;subst hP hw hK;obtain⟨xs,x,hq,hx⟩:=hg;obtain⟨its,rv,p,hz⟩:=I.list hq;obtain⟨u,hu,ru⟩:=rv.get hx;obtain⟨f0,f1,f2,f3,f4,f5⟩:=hf it (by simp);refine wpAny_pyNext_list_item st p.isList (x:=u) (by simpa using hu) λh' st' sb=>?_;have I1:Inv X pins σ H {s with heap:=h'}:=I.turned (t':=s.toks) (λb o hb e=>(sb.2 b hb).trans e) f0 f1 f3 f4 f5;obtain⟨o,e,c,d⟩:=id st';exact⟨u,rfl,zho (s:={s with heap:=h'}) e c d (by decide) ⟨x,H,I1,ru,⟨rfl,λys hy=>by rw[I.list_inj hy hq];exact hx⟩,st',λb hb=>(hf b hb).1⟩⟩
 done:=by intro X hP hw hK hc i pins s σ H E I hf st hg;subst hP hw hK;obtain⟨xs,hq,hx⟩:=hg;obtain⟨its,rv,p,hz⟩:=I.list hq;obtain⟨f0,f1,f2,f3,f4,f5⟩:=hf it (by simp);have hl:=rv.length;exact wpAny_pyNext_list_end (I.ok.hd hc) st p.isList (by simp;omega) λh' eb=>⟨rfl,I.turned (t':=s.toks) (λb o hb e=>eb b o hb e) f0 f1 f3 f4 f5⟩
 self:=λ_ _ _ _ _ st h=>wpAny_pyIter_listiter st h
def zjA {P:Program}{w:World}{K:QA}{tg:Expr}(a it:Addr):Turn P w K tg (Itt K a) [it] it (λi h=>h.IsTupleIter it a i) where
 mem:=by simp
 obj:=λi h st b hb=>by
  have e:b=it:=by simpa using hb
  subst e;obtain⟨o,e,c,d⟩:=st;exact⟨o,e,λv z=>by rw[d] at z;cases z⟩
 keep:=λi h h' st k=>st.at λo e=>k it (by simp) o e
 item:=by intro X hP hw hK hc i pins s σ H E I hf st hg;subst hP hw hK;obtain⟨xs,x,hq,hx⟩:=hg;obtain⟨its,rv,p,hz⟩:=I.tuple hq;obtain⟨u,hu,ru⟩:=rv.get hx;obtain⟨f0,f1,f2,f3,f4,f5⟩:=hf it (by simp);refine wpAny_pyNext_tuple_item st (show s.heap.IsTuple a its.toArray from p) (x:=u) (by simpa using hu) λh' st' sb=>?_;have I1:Inv X pins σ H {s with heap:=h'}:=I.turned (t':=s.toks) (λb o hb e=>(sb.2 b hb).trans e) f0 f1 f3 f4 f5;obtain⟨o,e,c,d⟩:=id st';exact⟨u,rfl,zho (s:={s with heap:=h'}) e c d (by decide) ⟨x,H,I1,ru,⟨rfl,λys hy=>by rw[I.tuple_inj hy hq];exact hx⟩,st',λb hb=>(hf b hb).1⟩⟩
 done:=by intro X hP hw hK hc i pins s σ H E I hf st hg;subst hP hw hK;obtain⟨xs,hq,hx⟩:=hg;obtain⟨its,rv,p,hz⟩:=I.tuple hq;obtain⟨f0,f1,f2,f3,f4,f5⟩:=hf it (by simp);have hl:=rv.length;exact wpAny_pyNext_tuple_end (I.ok.hd hc) st (show s.heap.IsTuple a its.toArray from p) (by simp;omega) λh' eb=>⟨rfl,I.turned (t':=s.toks) (λb o hb e=>eb b o hb e) f0 f1 f3 f4 f5⟩
 self:=λ_ _ _ _ _ st h=>wpAny_pyIter_tupleiter st h
def zjF {P:Program}{w:World}{K:QA}{tg:Expr}(it:Addr)(lo:Int)(n:Nat):Turn P w K tg (Itr lo n) [it] it (λi h=>IsRangeIter h it (lo+(i:Nat) * 1) ((n:Int) - (i:Nat)) 1) where
 mem:=by simp
 obj:=λi h st b hb=>by
  have e:b=it:=by simpa using hb
  subst e;exact⟨_,st,λv z=>by have z':Data.fields _=Data.cell v:=z;cases z'⟩
 keep:=λi h h' st k=>k it (by simp) _ st
 item:=by intro X hP hw hK hc i pins s σ H E I hf st hg;subst hP hw hK;obtain⟨f0,f1,f2,f3,f4,f5⟩:=hf it (by simp);have W:=Walks.range (prog:=X.prog) (w:=X.w) (I.ok.hd hc) it lo 1 n;refine W.item i s _ _ hg st λv h' tk hv st' kk=>?_;obtain⟨t,rfl⟩:=hv;have I1:Inv X pins σ H {s with heap:=h',toks:=tk}:=I.turned (λb o hb e=>kk b o (by simpa using hb) e) f0 f1 f3 f4 f5;refine⟨_,rfl,zho (s:={s with heap:=h',toks:=tk}) (n:= "range_iterator") st' rfl rfl (by decide) ⟨.int (lo+i),H,I1,⟨t,?_⟩,⟨rfl,rfl⟩,st',λb hb=>(hf b hb).1⟩⟩;rw[Int.mul_one]
 done:=by intro X hP hw hK hc i pins s σ H E I hf st hg;subst hP hw hK;obtain⟨f0,f1,f2,f3,f4,f5⟩:=hf it (by simp);exact wpAny_pyNext_range_end (I.ok.hd hc) st (by have:n<=i:=hg;omega) λh' eb=>⟨rfl,I.turned (t':=s.toks) (λb o hb e=>eb b o hb e) f0 f1 f3 f4 f5⟩
 self:=λ_ _ _ _ _ st h=>wpAny_pyIter_rangeiter st h
section
variable {X:Cx}{tg:Expr}
def zrE (K:QA)(tl:TE):TI:=fun σ H R=>tl σ H λx H1=>∃a,x=.ref a/\(∃xs,SqL K H1 a xs)/\R (Itl K a) H1
def iTup (K:QA)(tl:TE):TI:=fun σ H R=>tl σ H λx H1=>∃a,x=.ref a/\(∃xs,SqT K H1 a xs)/\R (Itt K a) H1
noncomputable abbrev _root_.Jb:=@Nat.le_refl
def zcn {l:Expr}{tl:TE}(hl:PE X l tl):PI X tg l (zrE X.K tl):=by
 intro pins s σ H R I h;refine thn (hl pins s σ H _ I h) λv s1 ⟨x,H1,I1,r1,q1⟩=>?_;obtain⟨a,e,⟨xs,hq⟩,q⟩:=q1;subst e;cases r1;obtain⟨its,rv,p,hz⟩:=I1.list hq;refine wpAny_pyIter_list p.isList ?_;refine⟨s1.heap.objs.size,[s1.heap.objs.size],_,_,H1,rfl,I1.kept (t':=s1.toks) λb o e=>Heap.get?_push_of_some _ e,zmd a _,⟨_,Heap.get?_push_size _ rfl,rfl,rfl⟩,λb hb=>?_,q⟩;have e:b=s1.heap.objs.size:=by simpa using hb
 subst e;exact I1.fpOk (Jb _) (I1.hok.fresh (Jb _))
def zhR {l:Expr}{tl:TE}(hl:PE X l tl):PI X tg l (iTup X.K tl):=by
 intro pins s σ H R I h;refine thn (hl pins s σ H _ I h) λv s1 ⟨x,H1,I1,r1,q1⟩=>?_;obtain⟨a,e,⟨xs,hq⟩,q⟩:=q1;subst e;cases r1;obtain⟨its,rv,p,hz⟩:=I1.tuple hq;refine wpAny_pyIter_tuple (show s1.heap.IsTuple a its.toArray from p) ?_;refine⟨s1.heap.objs.size,[s1.heap.objs.size],_,_,H1,rfl,I1.kept (t':=s1.toks) λb o e=>Heap.get?_push_of_some _ e,zjA a _,⟨_,Heap.get?_push_size _ rfl,rfl,rfl⟩,λb hb=>?_,q⟩;have e:b=s1.heap.objs.size:=by simpa using hb
 subst e;exact I1.fpOk (Jb _) (I1.hok.fresh (Jb _))
def zmU {pins:QE}{σ:St}{H:Hp}{s:Shared}{R:It->Hp->Prop}{E:QC}{lo hi:Int}{t u v:Tok}{tk:Nat}(I:Inv X pins σ H s)(h1: -(2 ^ 62)<=lo)(h2:lo < 2 ^ 62)(h3: -(2 ^ 62)<=hi)(h4:hi < 2 ^ 62)
  (q:R (Itr lo (hi - lo).toNat) H):wpAny (model X.prog X.w) X.A (pyIter (.ref s.heap.objs.size)) (PIE X pins σ tg R) E {s with heap:=s.heap.push {cls:=.type "range",data:=.fields #[.int lo t,.int hi u,.int 1 v]},toks:=tk}:=by
 refine wpAny_pyIter_range (IsRange.new ..) (small_one h1 h2 h3 h4) ?_;have I1:Inv X pins σ H {s with heap:=s.heap.push {cls:=.type "range",data:=.fields #[.int lo t,.int hi u,.int 1 v]},toks:=tk}:=I.kept λb o e=>Heap.get?_push_of_some _ e;refine⟨(s.heap.push {cls:=.type "range",data:=.fields #[.int lo t,.int hi u,.int 1 v]}).objs.size,[(s.heap.push {cls:=.type "range",data:=.fields #[.int lo t,.int hi u,.int 1 v]}).objs.size],_,_,H,rfl,
  I1.kept (t':=tk) λb o e=>Heap.get?_push_of_some _ e,zjF _ lo (hi - lo).toNat,?_,λb hb=>?_,q⟩
 ·have e1:lo+((0:Nat):Int) * 1=lo:=by simp
  have e2:(((hi - lo).toNat:Nat):Int) - ((0:Nat):Int)=Builtin.Range.rangeSize lo hi 1:=by rw[rangeSize_one];split <;> omega
  show IsRangeIter _ _ (lo+((0:Nat):Int) * 1) ((((hi - lo).toNat:Nat):Int) - ((0:Nat):Int)) 1;rw[e1,e2];exact Heap.get?_push_size _ rfl
 ·have e:b=(s.heap.push {cls:=.type "range",data:=.fields #[.int lo t,.int hi u,.int 1 v]}).objs.size:=by simpa using hb
  subst e;exact I1.fpOk (Jb _) (I1.hok.fresh (Jb _))
def zrB (ta:TA):TI:=fun σ H R=>ta σ H λvs H1=>∃j:Int,vs=[.int j]/\ -(2 ^ 62)<=j/\j < 2 ^ 62/\R (Itr 0 j.toNat) H1
def zlW {a:Expr}{ta:TA}{p pos:Pos}(hg:Gl X "range") (hm:X.mg "range" =none) (ha:PA X [a] ta) (hs:starEach [a] X.env=[(false,eval a X.env)]:=by rfl):PI X tg (.Call (.Name "range" p) [a] [] pos) (zrB ta):=by
 intro pins s σ H R I h;refine Call_ (zda I hg hm boot_range (PyProof.Rows.callWith_type1 (thn (ha pos pins s σ H _ I h) λus s1 ⟨vs,H1,I1,r1,q1⟩=>?_) hs rfl));obtain⟨j,e,q1,q2,q⟩:=q1;subst e;cases r1 with
 | cons r rr=>cases rr;obtain⟨t,rfl⟩:=r;exact call_range_1 (zmU I1 (by omega) (by omega) q1 q2 (by simpa using q))
def tFor (wi:TI)(g:TG)(tb:TS):TS:=λD σ H=>wi σ H λJ H1=>∃W:Nat->Nat->St->Hp->Prop,(∃m,W 0 m σ H1)/\∀i m σ H,W i m σ H->
 (J.stop i H/\D.nx σ H)\/(J.go i H/\∃N:St->Hp->Prop,(∀σ' H',N σ' H'->∃m',m' < m/\W (i+1) m' σ' H')/\∀x H',J.yld i H x H'->g x σ H' fun σ2 H2=>tb {D with nx:=N,ct:=N,bk:=D.nx} σ2 H2)
def zf7 (fp:QO)(h:Heap):List (Addr ×Obj):=fp.filterMap λb=>(h.get? b).map λo=>(b,o)
def zcV {fp:QO}{h:Heap}{b:Addr}{o:Obj}(hb:b∈fp)(e:h.get? b=some o):(b,o)∈zf7 fp h:=List.mem_filterMap.mpr ⟨b,hb,by rw[e];rfl⟩
def zlq {fp:QO}{h:Heap}{p:Addr ×Obj}(hp:p∈zf7 fp h):p.1∈fp/\h.get? p.1=some p.2:=by
 obtain⟨b,hb,e⟩:=List.mem_filterMap.mp hp;cases q:h.get? b with
 | none=>rw[q] at e;cases e
 | some o=>rw[q] at e;have e':(b,o)=p:=Option.some.inj e;subst e';exact⟨hb,q⟩
noncomputable abbrev _root_.Jj:=@List.mem_append_right
def Inv.pinned {pins:QE}{σ:St}{H:Hp}{s:Shared}{fp:QO}(I:Inv X pins σ H s)(hf:∀b∈fp,FpOk X pins H b)(ho:∀b∈fp,∃o,s.heap.get? b=some o/\∀v,o.data≠ .cell v):Inv X (pins++zf7 fp s.heap) σ H s:=
 I.pins_of λp hp=>(List.mem_append.mp hp).elim (λz=>I.pin p (Jj _ z)) λz=>by obtain⟨hb,e⟩:=zlq z;obtain⟨f0,f1,f2,_⟩:=hf p.1 hb;obtain⟨o,e',d⟩:=ho p.1 hb;rw[e] at e';cases e';exact⟨e,f0,f1,f2,d⟩
def Inv.unpinned {pins pl:QE}{σ:St}{H:Hp}{s:Shared}(I:Inv X (pins++pl) σ H s):Inv X pins σ H s:=I.pins_of λp hp=>I.pin p (Jj _ (Jq _ hp))
def za1 {iter:Expr}{body:List Stmt}{wi:TI}{g:TG}{tb:TS}{pos:Pos}(hp:PassesOwn (model X.prog X.w) X.A X.env X.xe)(hc:X.calm=true)(hi:PI X tg iter wi)(hg:PG X tg g)(hb:PSs X body tb)
  (hs:∀x,foldedSetIterable iter X.env x=pure x:=by intro _;rfl):PS X (.For tg iter body [] pos) (tFor wi g tb):=by
 intro pins s σ H D I h;refine wpAny_For (thn (hi pins s σ H _ I h) λv s1 h1=>thn h1 λitv s2 h2=>?_) hs;obtain⟨it,fp,tn,J,H2,e,I2,T,st2,f2,W,⟨m0,w0⟩,turn⟩:=h2;subst e
 have stat:∀{H':Hp},(∀b∈fp,H' b=none)->∀b∈fp,FpOk X pins H' b:=λhn b hb=>⟨hn b hb,(f2 b hb).2⟩;refine codeAny_forLoop_any (λn s'=>∃i σ' H',Inv X pins σ' H' s'/\tn i s'.heap/\(∀b∈fp,H' b=none)/\W i n σ' H') ?_ m0 ⟨0,σ,H2,I2,st2,λb hb=>(f2 b hb).1,w0⟩;rintro n s3 ⟨i,σ3,H3,I3,st3,fr3,w3⟩;rcases turn i n σ3 H3 w3 with ⟨stop,qn⟩ | ⟨go,N,hN,step⟩
 ·refine wpAny_passesOwn hp (thn (T.done X rfl rfl rfl hc i pins s3 σ3 H3 X.xe I3 (stat fr3) st3 stop) λr s4 ⟨hr,I4⟩=>?_);subst hr;exact wpAny_execs_nil ⟨σ3,H3,I4,qn⟩
 ·refine wpAny_passesOwn hp (thn (T.item X rfl rfl rfl hc i pins s3 σ3 H3 X.xe I3 (stat fr3) st3 go) λr s4 ⟨u,hr,h4⟩=>?_);subst hr;refine wpAny_passesOwn hp (thn h4 λ_ s5 ⟨x,H5,I5,r5,y5,st5,fr5⟩=>?_);have I5':=I5.pinned (stat fr5) (T.obj _ _ st5);refine wpAny_passesOwn hp (thn (hg _ s5 σ3 H5 x u _ I5' r5 (step x H5 y5)) λ_ s6 ⟨σ6,H6,I6,q6⟩=>?_);refine wpAny_passesOwn hp (thn (hb _ s6 σ6 H6 _ I6 q6) λf s7 q7=>?_);have again:∀{σ7:St} {H7:Hp},Inv X (pins++zf7 fp s5.heap) σ7 H7 s7->N σ7 H7->∃m,m < n/\∃i σ' H',Inv X pins σ' H' s7/\tn i s7.heap/\(∀b∈fp,H' b=none)/\W i m σ' H':=λ{σ7 H7} I7 n7=>by obtain⟨m',hm,w7⟩:=hN σ7 H7 n7;refine⟨m',hm,i+1,σ7,H7,I7.unpinned,T.keep _ _ _ st5 λb hb o e=>(I7.pin (b,o) (Jj _ (Jj _ (zcV hb e)))).1,λb hb=>?_,w7⟩;obtain⟨o,e,d⟩:=T.obj _ _ st5 b hb;exact(I7.pin (b,o) (Jj _ (Jj _ (zcV hb e)))).2.1
  cases f with
  | next=>obtain⟨σ7,H7,I7,n7⟩:=q7;exact again I7 n7
  | cont=>obtain⟨σ7,H7,I7,n7⟩:=q7;exact again I7 n7
  | brk=>obtain⟨σ7,H7,I7,q7⟩:=q7;exact⟨σ7,H7,I7.unpinned,q7⟩
  | ret v=>obtain⟨x7,σ7,H7,I7,r7,q7⟩:=q7;exact⟨x7,σ7,H7,I7.unpinned,r7,q7⟩
end
def zds {K:QA}{a:Addr}{xs:QQ}{g:TG}{tb:TS}{D:Ends}{σ:St}{H:Hp}(Pv:Nat->St->Hp->Prop)(h0:Pv 0 σ H)(hl:∀i σ H,i<=xs.length->Pv i σ H->SqL K H a xs)
  (hs:∀i x σ H,xs[i]? =some x->Pv i σ H->g x σ H fun σ2 H2=>tb {D with nx:=Pv (i+1),ct:=Pv (i+1),bk:=D.nx} σ2 H2) (hd:∀σ H,Pv xs.length σ H->D.nx σ H):
  ∃W:Nat->Nat->St->Hp->Prop,(∃m,W 0 m σ H)/\∀i m σ H,W i m σ H->
   ((Itl K a).stop i H/\D.nx σ H)\/((Itl K a).go i H/\∃N:St->Hp->Prop,(∀σ' H',N σ' H'->∃m',m' < m/\W (i+1) m' σ' H')/\∀x H',(Itl K a).yld i H x H'->g x σ H' fun σ2 H2=>tb {D with nx:=N,ct:=N,bk:=D.nx} σ2 H2):=by
 refine⟨λi m σ H=>m=xs.length - i/\i<=xs.length/\Pv i σ H,⟨xs.length,by simp,Nat.zero_le _,h0⟩,?_⟩;rintro i m σ H ⟨rfl,hi,p⟩;have q:=hl i σ H hi p;by_cases hlt:i < xs.length
 ·refine .inr ⟨⟨xs,xs[i],q,by simp[hlt]⟩,Pv (i+1),fun σ' H' p'=>⟨xs.length - (i+1),by omega,rfl,hlt,p'⟩,λx H' y=>?_⟩;obtain⟨e,y⟩:=y;subst e;exact hs i x σ _ (y xs q) p
 ·have e:i=xs.length:=by omega
  subst e;exact .inl ⟨⟨xs,q,Jb _⟩,hd σ H p⟩
def zkY {K:QA}{a:Addr}{xs:QQ}{g:TG}{tb:TS}{D:Ends}{σ:St}{H:Hp}(Pv:Nat->St->Hp->Prop)(h0:Pv 0 σ H)(hl:∀i σ H,i<=xs.length->Pv i σ H->SqT K H a xs)
  (hs:∀i x σ H,xs[i]? =some x->Pv i σ H->g x σ H fun σ2 H2=>tb {D with nx:=Pv (i+1),ct:=Pv (i+1),bk:=D.nx} σ2 H2) (hd:∀σ H,Pv xs.length σ H->D.nx σ H):
  ∃W:Nat->Nat->St->Hp->Prop,(∃m,W 0 m σ H)/\∀i m σ H,W i m σ H->
   ((Itt K a).stop i H/\D.nx σ H)\/((Itt K a).go i H/\∃N:St->Hp->Prop,(∀σ' H',N σ' H'->∃m',m' < m/\W (i+1) m' σ' H')/\∀x H',(Itt K a).yld i H x H'->g x σ H' fun σ2 H2=>tb {D with nx:=N,ct:=N,bk:=D.nx} σ2 H2):=by
 refine⟨λi m σ H=>m=xs.length - i/\i<=xs.length/\Pv i σ H,⟨xs.length,by simp,Nat.zero_le _,h0⟩,?_⟩;rintro i m σ H ⟨rfl,hi,p⟩;have q:=hl i σ H hi p;by_cases hlt:i < xs.length
 ·refine .inr ⟨⟨xs,xs[i],q,by simp[hlt]⟩,Pv (i+1),fun σ' H' p'=>⟨xs.length - (i+1),by omega,rfl,hlt,p'⟩,λx H' y=>?_⟩;obtain⟨e,y⟩:=y;subst e;exact hs i x σ _ (y xs q) p
 ·have e:i=xs.length:=by omega
  subst e;exact .inl ⟨⟨xs,q,Jb _⟩,hd σ H p⟩
def zl2 {lo:Int}{n:Nat}{g:TG}{tb:TS}{D:Ends}{σ:St}{H:Hp}(Pv:Nat->St->Hp->Prop)(h0:Pv 0 σ H)
  (hs:∀i σ H,i < n->Pv i σ H->g (.int (lo+i)) σ H fun σ2 H2=>tb {D with nx:=Pv (i+1),ct:=Pv (i+1),bk:=D.nx} σ2 H2) (hd:∀σ H,Pv n σ H->D.nx σ H):
  ∃W:Nat->Nat->St->Hp->Prop,(∃m,W 0 m σ H)/\∀i m σ H,W i m σ H->
   ((Itr lo n).stop i H/\D.nx σ H)\/((Itr lo n).go i H/\∃N:St->Hp->Prop,(∀σ' H',N σ' H'->∃m',m' < m/\W (i+1) m' σ' H')/\∀x H',(Itr lo n).yld i H x H'->g x σ H' fun σ2 H2=>tb {D with nx:=N,ct:=N,bk:=D.nx} σ2 H2):=by
 refine⟨λi m σ H=>m=n - i/\i<=n/\Pv i σ H,⟨n,by simp,Nat.zero_le _,h0⟩,?_⟩;rintro i m σ H ⟨rfl,hi,p⟩;by_cases hlt:i < n
 ·refine .inr ⟨hlt,Pv (i+1),fun σ' H' p'=>⟨n - (i+1),by omega,rfl,hlt,p'⟩,λx H' y=>?_⟩;obtain⟨e,y⟩:=y;subst e y;exact hs i σ _ hlt p
 ·have e:i=n:=by omega
  subst e;exact .inl ⟨Jb _,hd σ H p⟩
abbrev R2:=V->V->Hp->VK->Prop
def OpR (X:Cx)(f:Value->Value->Sem Value)(r:R2):Prop:=
 ∀(pins:QE) (s:Shared) (σ:St) (H:Hp) (x y:V) (v u:Value) (Q:VK),Inv X pins σ H s->RelV x v->RelV y u->r x y H Q->
  wpAny (model X.prog X.w) X.A (f v u) (EP X pins σ Q) X.xe s
def UnR (X:Cx)(f:Value->Sem Value)(r:V->Hp->VK->Prop):Prop:=
 ∀(pins:QE) (s:Shared) (σ:St) (H:Hp) (x:V) (v:Value) (Q:VK),Inv X pins σ H s->RelV x v->r x H Q->
  wpAny (model X.prog X.w) X.A (f v) (EP X pins σ Q) X.xe s
def zbg (X:Cx)(f:Value)(r:List V->Hp->VK->Prop):Prop:=
 ∀(pins:QE) (s:Shared) (σ:St) (H:Hp) (xs:QQ) (us:QN) (Q:VK),Inv X pins σ H s->Vals xs us->r xs H Q->
  wpAny (model X.prog X.w) X.A (call f us) (EP X pins σ Q) X.xe s
def tOp (r:R2)(ta tb:TE):TE:=fun σ H Q=>ta σ H λx H1=>tb σ H1 λy H2=>r x y H2 Q
def tUn (r:V->Hp->VK->Prop)(ta:TE):TE:=fun σ H Q=>ta σ H λx H1=>r x H1 Q
def rI (C:Int->Int->Prop)(g:Int->Int->V):R2:=λx y H Q=>∃i j,x=.int i/\y=.int j/\C i j/\Q (g i j) H
def rI0 (g:Int->Int->V):R2:=λx y H Q=>∃i j,x=.int i/\y=.int j/\Q (g i j) H
def rU (g:Int->V):V->Hp->VK->Prop:=λx H Q=>∃i,x=.int i/\Q (g i) H
section
variable {X:Cx}{a b c:Expr}{ta tb tc:TE}{pos:Pos}
def binT (ha:PE X a ta)(hb:PE X b tb){pins:QE}{s:Shared}{σ:St}{H:Hp}{R:V->V->Hp->Prop}(I:Inv X pins σ H s)
  (h:ta σ H λx H1=>tb σ H1 λy H2=>R x y H2) {Q:QC} {f:Value->Value->Sem Value}
  (hf:∀v u s2 x y H2,Inv X pins σ H2 s2->RelV x v->RelV y u->R x y H2->wpAny (model X.prog X.w) X.A (f v u) Q X.xe s2):
  wpAny (model X.prog X.w) X.A (eval a X.env) (λv s₁=>wpAny (model X.prog X.w) X.A (eval b X.env) (λu s₂=>wpAny (model X.prog X.w) X.A (f v u) Q X.xe s₂) X.xe s₁) X.xe s:=by
 refine thn (ha pins s σ H _ I h) λv s1 ⟨x,H1,I1,r1,q1⟩=>?_;refine thn (hb pins s1 σ H1 _ I1 q1) λu s2 ⟨y,H2,I2,r2,q2⟩=>?_;exact hf v u s2 x y H2 I2 r1 r2 q2
def zG {op:Operator}{r:R2}(ho:OpR X (binaryOp op) r)(ha:PE X a ta)(hb:PE X b tb):PE X (.BinOp a op b pos) (tOp r ta tb):=by intro pins s σ H Q I h;exact wpAny_BinOp (binT ha hb I h λv u s2 x y H2 I2 rx ry q=>ho pins s2 σ H2 x y v u Q I2 rx ry q)
def zcN {op:UnaryOp}{r:V->Hp->VK->Prop}(ho:UnR X (unaryOp op) r)(ha:PE X a ta):PE X (.UnaryOp op a pos) (tUn r ta):=by intro pins s σ H Q I h;exact UnaryOp_ (thn (ha pins s σ H _ I h) λv s1 ⟨x,H1,I1,r1,q1⟩=>ho pins s1 σ H1 x v Q I1 r1 q1)
def opI {f:Value->Value->Sem Value}{C:Int->Int->Prop}{g:Int->Int->Int}
  (rule:∀(i j:Int) (t u:Tok) (s:Shared) (Q:QC) (E:QC),C i j->Q (.int (g i j) s.toks) {s with toks:=s.toks+1}->wpAny (model X.prog X.w) X.A (f (.int i t) (.int j u)) Q E s):
  OpR X f (rI C λi j=>.int (g i j)):=by
 intro pins s σ H x y v u Q I rx ry h;obtain⟨i,j,rfl,rfl,hc,q⟩:=h;obtain⟨t,rfl⟩:=rx;obtain⟨t',rfl⟩:=ry;exact rule i j t t' s _ _ hc ⟨.int (g i j),H,I.tok _,⟨_,rfl⟩,q⟩
def opI0 {f:Value->Value->Sem Value}{g:Int->Int->Int}
  (rule:∀(i j:Int) (t u:Tok) (s:Shared) (Q:QC) (E:QC),Q (.int (g i j) s.toks) {s with toks:=s.toks+1}->wpAny (model X.prog X.w) X.A (f (.int i t) (.int j u)) Q E s):
  OpR X f (rI0 λi j=>.int (g i j)):=by
 intro pins s σ H x y v u Q I rx ry h;obtain⟨i,j,rfl,rfl,q⟩:=h;obtain⟨t,rfl⟩:=rx;obtain⟨t',rfl⟩:=ry;exact rule i j t t' s _ _ ⟨.int (g i j),H,I.tok _,⟨_,rfl⟩,q⟩
def opB0 {f:Value->Value->Sem Value}{g:Int->Int->Bool}
  (rule:∀(i j:Int) (t u:Tok) (s:Shared) (Q:QC) (E:QC),Q (.bool (g i j)) s->wpAny (model X.prog X.w) X.A (f (.int i t) (.int j u)) Q E s):
  OpR X f (rI0 λi j=>.bl (g i j)):=by
 intro pins s σ H x y v u Q I rx ry h;obtain⟨i,j,rfl,rfl,q⟩:=h;obtain⟨t,rfl⟩:=rx;obtain⟨t',rfl⟩:=ry;exact rule i j t t' s _ _ ⟨.bl (g i j),H,I,rfl,q⟩
def CPow (i j:Int):Prop:=0<=j/\j<=1000000/\i.natAbs < 2 ^ 64
def CMul (i j:Int):Prop:=(-(2 ^ 64) < i/\i < 2 ^ 64)\/(-(2 ^ 64) < j/\j < 2 ^ 64)
theorem CMul.ok {i j:Int}(h:CMul i j):IntMulOk i j:=by
 rcases h with ⟨h1,h2⟩ | ⟨h1,h2⟩
 ·exact .of_left (intBits_le_64 h1 h2)
 ·exact .of_right (intBits_le_64 h1 h2)
def zbA:OpR X (binaryOp .Add) (rI0 λi j=>.int (i+j)):=opI0 λ_ _ _ _ _ _ _ q=>add_int q
def zeS:OpR X (binaryOp .Sub) (rI0 λi j=>.int (i - j)):=opI0 λ_ _ _ _ _ _ _ q=>sub_int q
def zhI:OpR X (binaryOp .Mult) (rI CMul λi j=>.int (i * j)):=opI λ_ _ _ _ _ _ _ hc q=>mul_int q hc.ok
def zau:OpR X (binaryOp .Mod) (rI (λ_ j=>0 < j) λi j=>.int (i % j)):=opI λi j _ _ _ _ _ hc q=>by have h1:(0:Int) < j:=hc;exact mod_int' (by omega) (by rw[Int.fmod_eq_emod_of_nonneg i (by omega)];exact q)
def zgw:OpR X (binaryOp .Pow) (rI CPow λi j=>.int (i ^ j.toNat)):=opI λ_ _ _ _ _ _ _ hc q=>pow_int_small hc.1 hc.2.1 hc.2.2 q
def unI {f:Value->Sem Value}{g:Int->Int}
  (rule:∀(i:Int) (t:Tok) (s:Shared) (Q:QC) (E:QC),Q (.int (g i) s.toks) {s with toks:=s.toks+1}->wpAny (model X.prog X.w) X.A (f (.int i t)) Q E s):
  UnR X f (rU λi=>.int (g i)):=by
 intro pins s σ H x v Q I rx h;obtain⟨i,rfl,q⟩:=h;obtain⟨t,rfl⟩:=rx;exact rule i t s _ _ ⟨.int (g i),H,I.tok _,⟨_,rfl⟩,q⟩
def zbB:UnR X (unaryOp .USub) (rU λi=>.int (-i)):=unI λ_ _ _ _ _ q=>neg_int q
end
def scal:V->V->Bool
 | .non,.non=>true | .non,.int _=>true | .int _,.non=>true | .non,.bl _=>true | .bl _,.non=>true | .non,.str _=>true | .str _,.non=>true
 | .int _,.int _=>true | .bl _,.bl _=>true | .str _,.str _=>true | .byt _,.byt _=>true
 | .int _,.str _=>true | .str _,.int _=>true | .bl _,.str _=>true | .str _,.bl _=>true
 | _,_=>false
def rEq:R2:=λx y H Q=>scal x y=true/\Q (.bl (decide (x=y))) H
def rNe:R2:=λx y H Q=>scal x y=true/\Q (.bl (!decide (x=y))) H
def zk0 {i j:Int}:decide (V.int i=V.int j)=(i==j):=by rw[Bool.eq_iff_iff];simp
def zn8 {i j:Bool}:decide (V.bl i=V.bl j)=(i==j):=by rw[Bool.eq_iff_iff];simp
def zla {i j:Str}:decide (V.str i=V.str j)=(i==j):=by rw[Bool.eq_iff_iff];simp
def zkg {i j:Array UInt8}:decide (V.byt i=V.byt j)=(i.toList==j.toList):=by rw[Bool.eq_iff_iff];cases i;cases j;simp
section
variable {X:Cx}{a b c:Expr}{ta tb tc:TE}{pos:Pos}
def zS {pins:QE}{σ:St}{H:Hp}{s:Shared}{Q:VK}{k k':Bool}(I:Inv X pins σ H s)(q:Q (.bl k) H)(e:k=k'):EP X pins σ Q (.bool k') s:=by subst e;exact⟨.bl k,H,I,rfl,q⟩
def zb0:OpR X (compareOp .Eq) rEq:=by
 intro pins s σ H x y v u Q I rx ry h;obtain⟨hs,q⟩:=h;cases x with
 | non=>
  cases rx;cases y with
  | non=>cases ry;exact PySem.EqNone.eq_none_none (zS I q (by simp))
  | bl j=>cases ry;exact PySem.EqNone.eq_none_bool (zS I q (by simp))
  | int j=>obtain⟨t',rfl⟩:=ry;exact PySem.EqNone.eq_none_int (zS I q (by simp))
  | str j=>obtain⟨t',rfl⟩:=ry;exact PySem.EqNone.eq_none_str (zS I q (by simp))
  | _=>exact Jh (show false=true from hs) Jf
 | bl i=>
  cases rx;cases y with
  | non=>cases ry;exact PySem.EqNone.eq_bool_none (zS I q (by simp))
  | bl j=>cases ry;exact eq_bool (zS I q zn8)
  | str j=>obtain⟨t',rfl⟩:=ry;exact PySem.EqMixed.eq_bool_str (zS I q (by simp))
  | _=>exact Jh (show false=true from hs) Jf
 | int i=>
  obtain⟨t,rfl⟩:=rx;cases y with
  | non=>cases ry;exact PySem.EqNone.eq_int_none (zS I q (by simp))
  | int j=>obtain⟨t',rfl⟩:=ry;exact eq_int (zS I q zk0)
  | str j=>obtain⟨t',rfl⟩:=ry;exact PySem.EqMixed.eq_int_str (zS I q (by simp))
  | _=>exact Jh (show false=true from hs) Jf
 | str i=>
  obtain⟨t,rfl⟩:=rx;cases y with
  | non=>cases ry;exact PySem.EqNone.eq_str_none (zS I q (by simp))
  | bl j=>cases ry;exact PySem.EqMixed.eq_str_bool (zS I q (by simp))
  | int j=>obtain⟨t',rfl⟩:=ry;exact PySem.EqMixed.eq_str_int (zS I q (by simp))
  | str j=>obtain⟨t',rfl⟩:=ry;exact eq_str (zS I q zla)
  | _=>exact Jh (show false=true from hs) Jf
 | byt i=>
  obtain⟨t,rfl⟩:=rx;cases y with
  | byt j=>obtain⟨t',rfl⟩:=ry;exact PySem.W.eq_bytes (zS I q zkg)
  | _=>exact Jh (show false=true from hs) Jf
 | _=>cases y <;> exact Jh (show false=true from hs) Jf
def zee:OpR X (compareOp .NotEq) rNe:=by
 intro pins s σ H x y v u Q I rx ry h;obtain⟨hs,q⟩:=h;cases x with
 | non=>
  cases rx;cases y with
  | non=>cases ry;exact PySem.EqNone.ne_none_none (zS I q (by simp))
  | bl j=>cases ry;exact PySem.EqNone.ne_none_bool (zS I q (by simp))
  | int j=>obtain⟨t',rfl⟩:=ry;exact PySem.EqNone.ne_none_int (zS I q (by simp))
  | str j=>obtain⟨t',rfl⟩:=ry;exact PySem.EqNone.ne_none_str (zS I q (by simp))
  | _=>exact Jh (show false=true from hs) Jf
 | bl i=>
  cases rx;cases y with
  | non=>cases ry;exact PySem.EqNone.ne_bool_none (zS I q (by simp))
  | bl j=>cases ry;exact ne_bool (zS I q (congrArg not zn8))
  | str j=>obtain⟨t',rfl⟩:=ry;exact PySem.EqMixed.ne_bool_str (zS I q (by simp))
  | _=>exact Jh (show false=true from hs) Jf
 | int i=>
  obtain⟨t,rfl⟩:=rx;cases y with
  | non=>cases ry;exact PySem.EqNone.ne_int_none (zS I q (by simp))
  | int j=>obtain⟨t',rfl⟩:=ry;exact ne_int (zS I q (congrArg not zk0))
  | str j=>obtain⟨t',rfl⟩:=ry;exact PySem.EqMixed.ne_int_str (zS I q (by simp))
  | _=>exact Jh (show false=true from hs) Jf
 | str i=>
  obtain⟨t,rfl⟩:=rx;cases y with
  | non=>cases ry;exact PySem.EqNone.ne_str_none (zS I q (by simp))
  | bl j=>cases ry;exact PySem.EqMixed.ne_str_bool (zS I q (by simp))
  | int j=>obtain⟨t',rfl⟩:=ry;exact PySem.EqMixed.ne_str_int (zS I q (by simp))
  | str j=>obtain⟨t',rfl⟩:=ry;exact ne_str (zS I q (congrArg not zla))
  | _=>exact Jh (show false=true from hs) Jf
 | byt i=>
  obtain⟨t,rfl⟩:=rx;cases y with
  | byt j=>obtain⟨t',rfl⟩:=ry;exact PySem.W.ne_bytes (zS I q (congrArg not zkg))
  | _=>exact Jh (show false=true from hs) Jf
 | _=>cases y <;> exact Jh (show false=true from hs) Jf
def ziD:OpR X (compareOp .Lt) (rI0 λi j=>.bl (decide (i < j))):=opB0 λ_ _ _ _ _ _ _ q=>lt_int q
def zkk:OpR X (compareOp .LtE) (rI0 λi j=>.bl (decide (i<=j))):=opB0 λ_ _ _ _ _ _ _ q=>le_int q
def zm0:OpR X (compareOp .Gt) (rI0 λi j=>.bl (decide (j < i))):=opB0 λ_ _ _ _ _ _ _ q=>gt_int q
def zpY:OpR X (compareOp .GtE) (rI0 λi j=>.bl (decide (j<=i))):=opB0 λ_ _ _ _ _ _ _ q=>ge_int q
def zlx:OpR X (compareOp .Lt) (λx y H Q=>∃i j,x=.str i/\y=.str j/\Q (.bl (decide (i.cps.toList < j.cps.toList))) H):=by intro pins s σ H x y v u Q I rx ry h;obtain⟨i,j,rfl,rfl,q⟩:=h;obtain⟨t,rfl⟩:=rx;obtain⟨t',rfl⟩:=ry;exact lt_str (zS I q rfl)
def zd3:OpR X (compareOp .Is) (λx y H Q=>y=.non/\Q (.bl (decide (x=.non))) H):=by
 intro pins s σ H x y v u Q I rx ry h;obtain⟨rfl,q⟩:=h;cases ry;refine is_none_gen (zS I q ?_);cases x <;> first
  | (cases rx;rfl)
  | (obtain⟨t,rfl⟩:=rx;rfl)
def zo4:OpR X (compareOp .IsNot) (λx y H Q=>y=.non/\Q (.bl (!decide (x=.non))) H):=by
 intro pins s σ H x y v u Q I rx ry h;obtain⟨rfl,q⟩:=h;cases ry;refine isnot_none_gen (zS I q ?_);cases x <;> first
  | (cases rx;rfl)
  | (obtain⟨t,rfl⟩:=rx;rfl)
def OpR.or {f:Value->Value->Sem Value}{r r':R2}(h:OpR X f r)(h':OpR X f r'):OpR X f (λx y H Q=>r x y H Q\/r' x y H Q):=by
 intro pins s σ H x y v u Q I rx ry q;rcases q with q | q
 ·exact h pins s σ H x y v u Q I rx ry q
 ·exact h' pins s σ H x y v u Q I rx ry q
def zA (b:Expr){op:CmpOp}(h:op≠ .In:=by decide)(h2:op≠ .NotIn:=by decide):behindInMarks op b=false:=by
 have e1:(op==CmpOp.In)=false:=by cases op <;> first | rfl | exact Jh rfl h
 have e2:(op==CmpOp.NotIn)=false:=by cases op <;> first | rfl | exact Jh rfl h2
 cases b <;> simp[behindInMarks,e1,e2]
def zaF {op:CmpOp}{r:R2}(ho:OpR X (compareOp op) r)(ha:PE X a ta)(hb:PE X b tb)(hm:behindInMarks op b=false):PE X (.Compare a [op] [b] pos) (tOp r ta tb):=by intro pins s σ H Q I h;exact wpAny_Compare1 (binT ha hb I h λv u s2 x y H2 I2 rx ry q=>ho pins s2 σ H2 x y v u Q I2 rx ry q) hm
def zpZ (t:TE):TT:=fun σ H Q=>t σ H λx H'=>∃k,x=.bl k/\Q k H'
def zB {op:CmpOp}{r:R2}(ho:OpR X (compareOp op) r)(ha:PE X a ta)(hb:PE X b tb)(hm:behindInMarks op b=false):PT X (.Compare a [op] [b] pos) (zpZ (tOp r ta tb)):=by
 intro pins s σ H Q I h;refine wpAny_isTrue_Compare1 (thn (ha pins s σ H _ I h) λv s1 ⟨x,H1,I1,r1,q1⟩=>thn (hb pins s1 σ H1 _ I1 q1) λu s2 ⟨y,H2,I2,r2,q2⟩=>
  thn (ho pins s2 σ H2 x y v u _ I2 r1 r2 q2) λc s3 ⟨z,H3,I3,r3,k,e,q3⟩=>?_) hm
 subst e;cases r3;exact wpAny_truthy_bool ⟨H3,I3,q3⟩
def zmQ (r r':R2)(ta tb tc:TE):TE:=fun σ H Q=>ta σ H λx H1=>tb σ H1 λy H2=>r x y H2 λz H3=>∃k,z=.bl k/\
 (if k=true then tc σ H3 λw' H4=>r' y w' H4 Q else Q (.bl false) H3)
noncomputable def znr {op op':CmpOp}{r r':R2}(ho:OpR X (compareOp op) r)(ho':OpR X (compareOp op') r')(ha:PE X a ta)(hb:PE X b tb)(hc:PE X c tc)
  (hm:lastMarks [op,op'] [b,c]=false:=by with_unfolding_all rfl):PE X (.Compare a [op,op'] [b,c] pos) (zmQ r r' ta tb tc):=by
 intro pins s σ H Q I h;refine Compare_chain (thn (ha pins s σ H _ I h) λv s1 ⟨x,H1,I1,r1,q1⟩=>chain_link (thn (hb pins s1 σ H1 _ I1 q1) λu s2 ⟨y,H2,I2,r2,q2⟩=>
  thn (ho pins s2 σ H2 x y v u _ I2 r1 r2 q2) λd s3 ⟨z,H3,I3,r3,k,e,q3⟩=>?_)) hm
 subst e;cases r3;refine wpAny_truthy_bool ?_;cases k with
 | false=>exact ite_ff ⟨.bl false,H3,I3,rfl,q3⟩
 | true=>exact ite_tt (chain_last (thn (hc pins s3 σ H3 _ I3 q3) λw' s4 ⟨z',H4,I4,r4,q4⟩=>ho' pins s4 σ H4 y z' u w' Q I4 r2 r4 q4))
def zmE {op op':CmpOp}{r r':R2}(ho:OpR X (compareOp op) r)(ho':OpR X (compareOp op') r')(ha:PE X a ta)(hb:PE X b tb)(hc:PE X c tc)
  (hm:lastMarks [op,op'] [b,c]=false:=by with_unfolding_all rfl):PT X (.Compare a [op,op'] [b,c] pos) (zpZ (zmQ r r' ta tb tc)):=by
 intro pins s σ H Q I h;refine isTrue_chain (thn (ha pins s σ H _ I h) λv s1 ⟨x,H1,I1,r1,q1⟩=>test_link (thn (hb pins s1 σ H1 _ I1 q1) λu s2 ⟨y,H2,I2,r2,q2⟩=>
  thn (ho pins s2 σ H2 x y v u _ I2 r1 r2 q2) λd s3 ⟨z,H3,I3,r3,k,e,q3⟩=>?_)) hm
 subst e;cases r3;refine wpAny_truthy_bool ?_;cases k with
 | false=>obtain⟨k',e',q'⟩:=q3;cases e';exact ite_ff ⟨H3,I3,q'⟩
 | true=>refine ite_tt (test_last (thn (hc pins s3 σ H3 _ I3 q3) λw' s4 ⟨z',H4,I4,r4,q4⟩=>thn (ho' pins s4 σ H4 y z' u w' _ I4 r2 r4 q4) λd' s5 ⟨z2,H5,I5,r5,k2,e2,q5⟩=>?_));subst e2;cases r5;exact wpAny_truthy_bool ⟨H5,I5,q5⟩
def zgK:(sizeLine:Nat) < 2 ^ 63:=by rw[sizeLine_eq];decide
def zgi:OpR X (binaryOp .Add) (λx y H Q=>∃i j,x=.str i/\y=.str j/\i.length+j.length<=sizeLine/\Q (.str (i++j)) H):=by intro pins s σ H x y v u Q I rx ry h;obtain⟨i,j,rfl,rfl,hz,q⟩:=h;obtain⟨t,rfl⟩:=rx;obtain⟨t',rfl⟩:=ry;exact add_str (λt' tk=>⟨.str (i++j),H,I.tok _,⟨_,rfl⟩,q⟩) hz
def vals1 {x:V}{us:QN}(r:Vals [x] us):∃u,us=[u]/\RelV x u:=by
 cases r with
 | cons r1 r2=>cases r2;exact⟨_,rfl,r1⟩
theorem vals2 {x y:V}{us:QN}(r:Vals [x,y] us):∃u w',us=[u,w']/\RelV x u/\RelV y w':=by
 cases r with
 | cons r1 r2=>
  cases r2 with
  | cons r3 r4=>cases r4;exact⟨_,_,rfl,r1,r3⟩
def zmJ:zbg X (.builtin "abs") (λxs H Q=>∃i,xs=[.int i]/\Q (.int (if i < 0 then -i else i)) H):=by intro pins s σ H xs us Q I r h;obtain⟨i,rfl,q⟩:=h;obtain⟨u,rfl,t,rfl⟩:=vals1 r;exact call_abs_int λu tk=>⟨.int (if i < 0 then -i else i),H,I.tok _,⟨_,rfl⟩,q⟩
def zl6:zbg X (.type "int") (λxs H Q=>(∃i,xs=[.int i]/\Q (.int i) H)\/∃k,xs=[.bl k]/\Q (.int (if k then 1 else 0)) H):=by
 intro pins s σ H xs us Q I r h;rcases h with ⟨i,rfl,q⟩ | ⟨k,rfl,q⟩
 ·obtain⟨u,rfl,t,rfl⟩:=vals1 r;exact call_int_int ⟨.int i,H,I,⟨_,rfl⟩,q⟩
 ·obtain⟨u,rfl,r1⟩:=vals1 r;cases r1;exact call_int_bool ⟨.int (if k then 1 else 0),H,I.tok _,⟨_,rfl⟩,q⟩
def zis:zbg X (.builtin "ord") (λxs H Q=>∃x,xs=[.str x]/\x.length=1/\Q (.int (x.cps.getD 0 0:Nat)) H):=by intro pins s σ H xs us Q I r h;obtain⟨x,rfl,hz,q⟩:=h;obtain⟨u,rfl,t,rfl⟩:=vals1 r;exact ord_of_one hz ⟨.int _,H,I.tok _,⟨_,rfl⟩,q⟩
end
structure ObjM (h:Heap)(x dx C:Addr)(mA:QB):Prop where
 obj:h.get? x=some (PySem.W.instObj C dx)
 ns:h.Ns1 dx mA
 ne:dx≠x
def zhd {h:Heap}{dx:Addr}{mA:QB}(n:h.Ns1 dx mA):∃od,h.get? dx=some od/\∀name,PySem.W.lookIn name od=some (mA name):=by
 obtain⟨o,es,ep,ho,hd,hk,_,hm⟩:=n;refine⟨o,ho,λname=>?_⟩;have e:=hm name;unfold nsFind findBy at e;rw[<-Array.find?_toList] at e;unfold PySem.W.lookIn;rw[hd];dsimp only;split
 ·rename_i y q;rw[q] at e;exact congrArg some e
 ·rename_i q;rw[q] at e;have a:es.toList.any (·.refKey)=false:=by rw[List.any_eq_false];intro y hy;obtain⟨z,t,hkey⟩:=hk y (Array.mem_toList_iff.mp hy);simp[DictEntry.refKey,hkey]
  have a':¬es.toList.any (·.refKey)=true:=by rw[a];exact Jf
  rw[if_neg a'];exact congrArg some e
theorem ObjM.look {h:Heap}{x dx C:Addr}{mA:QB}(I:ObjM h x dx C mA):∃od,PySem.W.InstAt h x (PySem.W.instObj C dx) C (some od)/\∀name,PySem.W.lookIn name od=some (mA name):=
 let ⟨od,ho,hl⟩:=zhd I.ns
 ⟨od,⟨I.obj,rfl,rfl,ho⟩,hl⟩
section
variable {prog:Program}{w:World}{A:Around}{E:QC}{s:Shared}{K:QA}{x dx C f:Addr}{mA:QB}{name:Str}{v:Value}
def get_map {expr:Bool}{Q:QC}(X:K.In s.heap)(I:ObjM s.heap x dx C mA)(hg:PySem.W.plainGet K C name=true)(hh:PySem.W.hasDictIn K C=true)
  (ha:PySem.W.findIn K (.ref C) name=some none) (hv:mA name=some v) (hv':PySem.W.handedIn v=true) (h:Q v {s with toks:=s.toks+1}):
  wpAny (model prog w) A (getAttr (.ref x) name expr) Q E s:=by
 obtain⟨od,J,hl⟩:=I.look;exact PySem.W.get_value X J (PySem.W.plainGet_of hg).1 (PySem.W.findObj_own hh ha rfl (by rw[hl,hv])) hv' h
def znt {pl:Sem Bool}{Q:Value ×List Value->Shared->Prop}(X:K.In s.heap)(I:ObjM s.heap x dx C mA)(hg:PySem.W.plainGet K C name=true)
  (hf:PySem.W.findIn K (.ref C) name=some (some (.ref f))) (ht:PySem.W.isFn K (.ref f)=true) (hv:mA name=none) (h:Q (.ref f,[.ref x]) s):
  wpAny (model prog w) A (getMethod (.ref x) name pl) Q E s:=by
 obtain⟨od,J,hl⟩:=I.look;exact PySem.W.method_fn X J (PySem.W.plainGet_of hg).1 (PySem.W.plainGet_of hg).2 hf (beq_iff_eq.mp ht) (by show(PySem.W.lookIn name od).map (·.isSome)=some false;rw[hl,hv];rfl) h
def zpm {ns:QP}{Q:QD}(X:K.In s.heap)(I:ObjM s.heap x dx C mA)
  (hs:PySem.W.findIn K (.ref C) "__setattr__" =some (some (.builtin "object.__setattr__"))) (hp:PySem.W.plainOver K C=true) (ht:PySem.W.takerIn K C name=some none) (hh:PySem.W.hasDictIn K C=true)
  (hw:PySem.Within mA ns) (hsz:ns.length<=sizeLine)
  (h:∀h',ObjM h' x dx C (λy=>if y=name then some v else mA y)->Heap.SameBut dx s.heap h'->Q () {s with heap:=h',toks:=s.toks+2}):
  wpAny (model prog w) A (setAttr (.ref x) name v) Q E s:=by
 obtain⟨od,J,hl⟩:=I.look;refine PySem.W.set_plain X J hs (PySem.W.osa_open (s:={s with toks:=s.toks+1}) (r:=none) X J hp ht λb=>?_);obtain⟨cd,hc,hd'⟩:=PySem.W.any_some hh;have hx:s.heap.get? x=some ⟨.ref C,some dx,.plain, #[]⟩:=I.obj;refine Ja (wpAny_pure (Ja (Ja (wpAny_loadPart hx (Ja (PySem.W.Looks.here (s:={s with toks:=s.toks+1}) (PySem.W.looks_clsIn X hc) ?_))))));rw[hd'];refine wpAny_pure (a:=some dx) (Ja (wpAny_pure (Ja ?_)));refine wpAny_nsSet1 (s:={s with toks:=s.toks+1}) I.ns λh' hn2 hs2=>?_;obtain⟨oD,esD,epD,hoD,hdD,hcD⟩:=hn2.count (PySem.Within.cons name v hw);refine Ja (wpAny_lookBehind hoD (by rw[hdD];exact pastItsLine_dict (Jk hcD (by rw[List.length_cons];omega))) ?_);exact wpAny_pure (h _ ⟨(hs2.2 _ (Ne.symm I.ne)).trans I.obj,hn2,I.ne⟩ hs2)
abbrev _root_.QK:=List (Str ×Value)
def zmV {R:Result->Shared->Prop}{vs:QN}{kw:QK}(X:K.In s.heap)(hm:PySem.W.makesIn K C=true)
  (hi:PySem.W.findIn K (.ref C) "__init__" =some (some (.ref f))) (hf:PySem.W.typeIn K (.ref f)=some (.type "function"))
  (h:codeAny (model prog w) (A.under (.builtin "type.__call__" ⟨.ref C::vs,kw⟩)) (.call (.ref f) ⟨.ref (s.heap.objs.size+1)::vs,kw⟩) (PySem.W.InitBack (s.heap.objs.size+1) R)
   {s with heap:=(s.heap.push PySem.W.emptyDict).push (PySem.W.instObj C s.heap.objs.size)}):
  codeAny (model prog w) A (.call (.ref C) ⟨vs,kw⟩) R s:=by
 obtain⟨hh,g,d,t,os⟩:=s;exact PySem.W.make_core (PySem.W.makes_of X hm) (PySem.W.looks_findIn X hi) (λself=>PySem.W.bind_fn X self hf) (.inl rfl) h
end
def putF (f:Str)(v:V):List (Str ×V)->List (Str ×V)
 | []=>[(f,v)]
 | (g,x)::r=>if g=f then(g,v)::r else(g,x)::putF f v r
theorem zdr (f g:Str)(v:V):∀fs:List (Str ×V),(putF f v fs).lookup g=if g=f then some v else fs.lookup g
 | []=>by
  show List.lookup g [(f,v)]=_;by_cases h:g=f
  ·have hb:(g==f)=true:=beq_iff_eq.mpr h;simp only[List.lookup,hb,if_pos h]
  ·have hb:(g==f)=false:=beq_eq_false_iff_ne.mpr h;simp only[List.lookup,hb,if_neg h]
 | (k,x)::r=>by
  have ih:=zdr f g v r;rw[show putF f v ((k,x)::r)=(if k=f then(k,v)::r else(k,x)::putF f v r) from rfl];by_cases hk:k=f
  ·rw[if_pos hk];by_cases h:g=k
   ·have hb:(g==k)=true:=beq_iff_eq.mpr h;simp only[List.lookup,hb,if_pos (h.trans hk)]
   ·have hb:(g==k)=false:=beq_eq_false_iff_ne.mpr h;simp only[List.lookup,hb,if_neg (λe:g=f=>h (e.trans hk.symm))]
  ·rw[if_neg hk];by_cases h:g=k
   ·have hb:(g==k)=true:=beq_iff_eq.mpr h;simp only[List.lookup,hb,if_neg (λe:g=f=>hk (h.symm.trans e))]
   ·have hb:(g==k)=false:=beq_eq_false_iff_ne.mpr h;simp only[List.lookup,hb];exact ih
theorem zcL (f:Str)(v:V):∀fs:List (Str ×V),f∈(putF f v fs).map (·.1)/\∀g,g∈fs.map (·.1)->g∈(putF f v fs).map (·.1)
 | []=>⟨by simp[putF],λg h=>by simp at h⟩
 | (k,x)::r=>by
  obtain⟨i1,i2⟩:=zcL f v r;rw[show putF f v ((k,x)::r)=(if k=f then(k,v)::r else(k,x)::putF f v r) from rfl];by_cases hk:k=f
  ·rw[if_pos hk];subst hk;exact⟨by simp,λg h=>by simpa using h⟩
  ·rw[if_neg hk];refine⟨?_,λg h=>?_⟩
   ·rw[List.map_cons];exact Jn _ i1
   ·rw[List.map_cons] at h ⊢;rcases List.mem_cons.mp h with e | e
    ·exact List.mem_cons.mpr (.inl e)
    ·exact Jn _ (i2 g e)
theorem zfj (f:Str)(v:V):∀fs:List (Str ×V),(putF f v fs).length<=fs.length+1
 | []=>by simp[putF]
 | (k,x)::r=>by
  have ih:=zfj f v r;rw[show putF f v ((k,x)::r)=(if k=f then(k,v)::r else(k,x)::putF f v r) from rfl];by_cases hk:k=f
  ·rw[if_pos hk,List.length_cons,List.length_cons];omega
  ·rw[if_neg hk,List.length_cons,List.length_cons];omega
theorem RelO.some_of {v:V}{o:Option Value}(r:RelO (some v) o):∃u,o=some u/\RelV v u:=by
 cases o with
 | none=>exact(show False from r).elim
 | some u=>exact⟨u,rfl,r⟩
def RelO.none_of {o:Option Value}(r:RelO none o):o=none:=by
 cases o with
 | none=>rfl
 | some u=>exact(show False from r).elim
theorem zhj {v:V}{u:Value}(r:RelV v u):PySem.W.handedIn u=true:=by
 cases v with
 | non=>cases (show u=Value.none from r);rfl
 | bl b=>cases (show u=Value.bool b from r);rfl
 | int i=>obtain⟨t,e⟩:=(show∃t,u=Value.int i t from r);cases e;rfl
 | str x=>obtain⟨t,e⟩:=(show∃t,u=Value.str x t from r);cases e;rfl
 | byt b=>obtain⟨t,e⟩:=(show∃t,u=Value.bytes b t from r);cases e;rfl
 | flt b=>obtain⟨t,e⟩:=(show∃t,u=Value.float b t from r);cases e;rfl
 | ref a=>cases (show u=Value.ref a from r);rfl
 | ty n=>cases (show u=Value.type n from r);rfl
section
variable {P:Program}{w:World}{H H':Hp}{h h':Heap}{a C dx:Addr}{fs fs':List (Str ×V)}
def zfQ (hok:HOk P w H h)(e:H a=some (.ins C dx fs)):∃mA,ObjM h a dx C mA/\(∀f,RelO (fs.lookup f) (mA f))/\PySem.Within mA (fs.map (·.1))/\fs.length<=1000/\H dx=some (.own a):=by obtain⟨d,z,ne,ob,mA,n,r,q⟩:=(show zac P w H h a (.ins C dx fs) from hok a _ e);exact⟨mA,⟨ob,n,ne⟩,r,q,z,d⟩
end
structure Cls (K:QA)(C:Addr):Prop where
 pg:PySem.W.plainGet K C Str.empty=true
 hd:PySem.W.hasDictIn K C=true
 po:PySem.W.plainOver K C=true
 sa:PySem.W.findIn K (.ref C) "__setattr__" =some (some (.builtin "object.__setattr__"))
theorem Cls.get {K:QA}{C:Addr}(c:Cls K C)(f:Str):PySem.W.plainGet K C f=true:=c.pg
def zE (K:QA)(C:Addr)(f:Str):Prop:=PySem.W.findIn K (.ref C) f=some none
def zE.taker {K:QA}{C:Addr}{f:Str}(n:zE K C f):PySem.W.takerIn K C f=some none:=by
 unfold PySem.W.takerIn;rw[show PySem.W.findIn K (.ref C) f=some none from n]
 rfl
structure Con (K:QA)(C:Addr)(f:Str)(v:V)(u:Value):Prop where
 at_:PySem.W.findIn K (.ref C) f=some (some u)
 rel:RelV v u
 get:PySem.W.specialIn K u "__get__" =some none
 cp:PySem.W.copiedNames.contains f=false
structure Meth (K:QA)(C:Addr)(m:Str)(f:Addr):Prop where
 at_:PySem.W.findIn K (.ref C) m=some (some (.ref f))
 fn:PySem.W.isFn K (.ref f)=true
 kp:PySem.W.keepIn K (.ref f)=true
section
variable {X:Cx}{pins:QE}{σ:St}{H:Hp}{s:Shared}{a C dx:Addr}{fs:List (Str ×V)}{f:Str}{v:V}{A:Around}{E:QC}
def zjq {b:Bool}{Q:QC}(I:Inv X pins σ H s)(e:H a=some (.ins C dx fs))(c:Cls X.K C)(n:zE X.K C f)(l:fs.lookup f=some v)
  (h:∀u s',Inv X pins σ H s'->RelV v u->Q u s'):wpAny (model X.prog X.w) A (getAttr (.ref a) f b) Q E s:=by
 obtain⟨mA,O,r,_,_,_⟩:=zfQ I.hok e;obtain⟨u,hu,ru⟩:=RelO.some_of (v:=v) (o:=mA f) (by rw[<-l];exact r f);exact get_map I.kIn O (c.get f) c.hd n hu (zhj ru) (h u _ (I.tok _) ru)
def zcY {m:Str}{g:Addr}{pl:Sem Bool}{Q:Value ×List Value->Shared->Prop}(I:Inv X pins σ H s)(e:H a=some (.ins C dx fs))(c:Cls X.K C)(k:Meth X.K C m g)(l:fs.lookup m=none)
  (h:Q (.ref g,[.ref a]) s):wpAny (model X.prog X.w) A (getMethod (.ref a) m pl) Q E s:=by
 obtain⟨mA,O,r,_,_,_⟩:=zfQ I.hok e;have hn:mA m=none:=RelO.none_of (by rw[<-l];exact r m);exact znt I.kIn O (c.get m) k.at_ k.fn hn h
def zjr {y:V}{u:Value}{Q:QD}(I:Inv X pins σ H s)(e:H a=some (.ins C dx fs))(c:Cls X.K C)(n:zE X.K C f)(hl:fs.length < 1000)(ry:RelV y u)
  (h:∀s',Inv X pins σ (upd H a (.ins C dx (putF f y fs))) s'->Q () s'):wpAny (model X.prog X.w) A (setAttr (.ref a) f u) Q E s:=by
 obtain⟨mA,O,r,wi,_,ho⟩:=zfQ I.hok e;have hz:(fs.map (·.1)).length<=sizeLine:=by rw[List.length_map,sizeLine_eq];omega
 refine zpm I.kIn O c.sa c.po n.taker c.hd wi hz λh' O' sb=>h _ ?_;have hd:∃o,h'.get? dx=some o:=let ⟨o,_,_,e',_⟩:=O'.ns;⟨o,e'⟩;refine I.write (x:=a) (e:=dx) (by rw[e];exact True.intro) (.inr ho) (λb q hb z=>(sb.2 b hb).trans z) hd ?_;refine⟨by rw[zk O.ne];exact ho,?_,O.ne,O'.obj,_,O'.ns,λg=>?_,λg hg=>?_⟩
 ·have:=zfj f y fs;omega
 ·show RelO ((putF f y fs).lookup g) (if g=f then some u else mA g);rw[zdr];by_cases q:g=f
  ·rw[if_pos q,if_pos q];exact ry
  ·rw[if_neg q,if_neg q];exact r g
 ·by_cases q:g=f
  ·rw[q];exact(zcL f y fs).1
  ·refine(zcL f y fs).2 g (wi g λz=>hg ?_);show(if g=f then some u else mA g)=none;rw[if_neg q];exact z
def Inv.made (I:Inv X pins σ H s):Inv X pins σ (upd (upd H s.heap.objs.size (.own (s.heap.objs.size+1))) (s.heap.objs.size+1) (.ins C s.heap.objs.size []))
  {s with heap:=(s.heap.push PySem.W.emptyDict).push (PySem.W.instObj C s.heap.objs.size)}:=by
 have e1:(s.heap.push PySem.W.emptyDict).get? s.heap.objs.size=some PySem.W.emptyDict:=Heap.get?_push_size s.heap rfl;have e2:((s.heap.push PySem.W.emptyDict).push (PySem.W.instObj C s.heap.objs.size)).get? (s.heap.objs.size+1)=some (PySem.W.instObj C s.heap.objs.size):=by have:=Heap.get?_push_size (s.heap.push PySem.W.emptyDict) (o:=PySem.W.instObj C s.heap.objs.size) rfl;rwa[Heap.size_push] at this
 have e3:(s.heap.push PySem.W.emptyDict).Ns s.heap.objs.size (λ_=>none):=⟨PySem.W.emptyDict, #[],_,e1,rfl,(λe he=>Jh he (by simp)),λ_=>rfl⟩;have I1:=I.laid (a:=s.heap.objs.size) (o:=.own (s.heap.objs.size+1)) (h':=s.heap.push PySem.W.emptyDict) (t':=s.toks) (λb u q=>Heap.get?_push_of_some _ q) (Jb _) ⟨_,e1⟩;refine I1.laid (a:=s.heap.objs.size+1) (o:=.ins C s.heap.objs.size []) (t':=s.toks) (λb u q=>Heap.get?_push_of_some _ q) (Nat.le_of_eq (Heap.size_push _ _)) ?_;have ne:s.heap.objs.size≠s.heap.objs.size+1:=Jl (Nat.lt_succ_self _);refine⟨by rw[zk ne,zg],Nat.zero_le _,ne,e2,λ_=>none,(Heap.Ns1.of_empty e3).at λo q=>Heap.get?_push_of_some _ q,λ_=>True.intro,λy hy=>Jh rfl hy⟩
def zkA {prog:Program}{w:World}{env:Env}{e:Expr}{f:Str}{pos:Pos}{s:Shared}{Q:QC}(hb:attributeBase e f env (eval e env)=eval e env)
  (h:wpAny (model prog w) A (eval e env) (λo s₁=>wpAny (model prog w) A (getAttr o f true) Q E s₁) E s):wpAny (model prog w) A (eval (.Attribute e f pos) env) Q E s:=
 Attribute_any_ h (by rw[arm_eval_Attribute,hb])
end
def tFld (K:QA)(ta:TE)(f:Str):TE:=fun σ H Q=>ta σ H λx H1=>∃a C dx fs v,x=.ref a/\H1 a=some (.ins C dx fs)/\Cls K C/\zE K C f/\fs.lookup f=some v/\Q v H1
def sFld (K:QA)(ta tv:TE)(f:Str):TS:=λD σ H=>tv σ H λy H1=>ta σ H1 λx H2=>∃a C dx fs,x=.ref a/\H2 a=some (.ins C dx fs)/\Cls K C/\zE K C f/\fs.length < 1000/\
 D.nx σ (upd H2 a (.ins C dx (putF f y fs)))
section
variable {X:Cx}{o e value:Expr}{f:Str}{pos pos' tpos:Pos}{ta tv:TE}
theorem zaJ (he:PE X e ta)(hb:attributeBase e f X.env (eval e X.env)=eval e X.env):PE X (.Attribute e f pos) (tFld X.K ta f):=by intro pins s σ H Q I h;refine zkA hb (thn (he pins s σ H _ I h) λu s1 ⟨x,H1,I1,rx,a,C,dx,fs,v,ex,ea,c,n,l,q⟩=>?_);subst ex;obtain rfl:u=Value.ref a:=rx;exact zjq I1 ea c n l λu' s2 I2 ru=>⟨v,H1,I2,ru,q⟩
def zeX (ha:PE X o ta)(hv:PE X value tv)(hs:swapsWith value (some (.Attribute o f pos')) pos.line X.env=pure false):PS X (.Assign [.Attribute o f pos'] value pos) (sFld X.K ta tv f):=by intro pins s σ H D I h;refine plainObj_wpAny_Assign_Attribute (thn (hv pins s σ H _ I h) λu s1 ⟨y,H1,I1,ry,q⟩=>thn (ha pins s1 σ H1 _ I1 q) λov s2 ⟨x,H2,I2,rx,a,C,dx,fs,ex,ea,c,n,l,q2⟩=>?_) hs;subst ex;obtain rfl:ov=Value.ref a:=rx;exact zjr I2 ea c n l ry λs3 I3=>⟨σ,_,I3,q2⟩
def zpO {pl:Sem Bool}{m:Str}{apos:Pos}{args:List Expr}{pins:QE}{s:Shared}{σ:St}{H:Hp}{Q:QC}{te:TE}(he:PE X e te)(I:Inv X pins σ H s)
  (h:te σ H λx H1=>∃a C dx fs g,x=.ref a/\H1 a=some (.ins C dx fs)/\Cls X.K C/\Meth X.K C m g/\fs.lookup m=none/\
   ∀s1,Inv X pins σ H1 s1->wpAny (model X.prog X.w) X.A (callWith pos (.ref g) [.ref a] (backTo pos (starEach args X.env)) (backToKw pos (keywordEach [] X.env))) Q X.xe s1)
  (ht:eval (.Call (.Attribute e m apos) args [] pos) X.env=(do
   let ov<-eval e X.env
   standAt apos.atName
   let (f,first) <-holding [ov] (getMethod ov m pl)
   callWith pos f first (backTo pos (starEach args X.env)) (backToKw pos (keywordEach [] X.env)))):
  wpAny (model X.prog X.w) X.A (eval (.Call (.Attribute e m apos) args [] pos) X.env) Q X.xe s:=by
 refine PySem.W.methodCall_KW (pl:=pl) (thn (he pins s σ H _ I h) λu s1 ⟨x,H1,I1,rx,a,C,dx,fs,g,ex,ea,c,k,l,q⟩=>?_) ht;subst ex;obtain rfl:u=Value.ref a:=rx;exact zcY I1 ea c k l (q s1 I1)
end
section
variable {X:Cx}{pins:QE}{σ:St}{H:Hp}{s:Shared}{A:Around}{E:QC}{Q:QC}{c:Value}{b:Bool}
inductive TyOf (K:QA) (H:Hp):V->Value->Prop where
 | non:TyOf K H .non (.type "NoneType")
 | bl (x:Bool):TyOf K H (.bl x) (.type "bool")
 | int (i:Int):TyOf K H (.int i) (.type "int")
 | str (x:Str):TyOf K H (.str x) (.type "str")
 | flt (x:UInt64):TyOf K H (.flt x) (.type "float")
 | lst {a:Addr} {xs:QQ} (e:H a=some (.lst xs)):TyOf K H (.ref a) (.type "list")
 | frz {a:Addr} {o:Obj} {xs:QQ} (e:H a=some (.frz o (.lst xs))):TyOf K H (.ref a) (.type "list")
 | tup {a:Addr} {xs:QQ} (e:H a=some (.tup xs)):TyOf K H (.ref a) (.type "tuple")
 | dK {a:Addr} {kvs:QG} (e:H a=some (.dK kvs)):TyOf K H (.ref a) (.type "dict")
 | dT {a:Addr} {kvs:List (List Key ×V)} (e:H a=some (.dT kvs)):TyOf K H (.ref a) (.type "dict")
 | ins {a C dx:Addr} {fs:List (Str ×V)} (e:H a=some (.ins C dx fs)) (cl:Cls K C) (ha:PySem.W.findIn K (.ref C) "__class__" =some (some (.builtin "object.__class__")))
   (hn:PySem.W.specialIn K (.builtin "object.__class__") "__get__" =some (some (.builtin "getset_descriptor.__get__"))) (htk:PySem.W.takesIn K (.builtin "object.__class__")=some true)
   (hm:PySem.W.mroIn K C (.type "object")=some true):TyOf K H (.ref a) (.ref C)
def zlr {x:V}{u t:Value}(I:Inv X pins σ H s)(rx:RelV x u)(ty:TyOf X.K H x t)(e:PySem.W.kitOne X.K t c=some b)(h:∀tk,Q (.bool b) {s with toks:=tk}):
  wpAny (model X.prog X.w) A (call (.builtin "isinstance") [u,c]) Q E s:=by
 cases ty with
 | non=>cases (show u=Value.none from rx);exact PySem.W.kia_one PySem.W.kitx_none I.kIn True.intro e (λz=>nomatch z) h
 | bl y=>cases (show u=Value.bool y from rx);exact PySem.W.kia_one PySem.W.kitx_bool I.kIn True.intro e (λz=>nomatch z) h
 | int i=>obtain⟨t,q⟩:=(show∃t,u=Value.int i t from rx);cases q;exact PySem.W.kia_one PySem.W.kitx_int I.kIn True.intro e (λz=>nomatch z) h
 | str y=>obtain⟨t,q⟩:=(show∃t,u=Value.str y t from rx);cases q;exact PySem.W.kia_one PySem.W.kitx_str I.kIn True.intro e (λz=>nomatch z) h
 | flt y=>obtain⟨t,q⟩:=(show∃t,u=Value.float y t from rx);cases q;exact PySem.W.kia_one PySem.W.kitx_float I.kIn True.intro e (λz=>nomatch z) h
 | @lst a xs ea=>cases (show u=Value.ref a from rx);obtain⟨_,_,n,_,h1⟩:=(show zac X.prog X.w H s.heap a (.lst xs) from I.hok a _ ea);exact PySem.W.kia_one PySem.W.kitx_list I.kIn ⟨_,h1,rfl⟩ e (λz=>nomatch z) h
 | @frz a ob xs ea=>cases (show u=Value.ref a from rx);obtain⟨_,_,_,n,_,h1⟩:=(show zac X.prog X.w H s.heap a (.frz ob (.lst xs)) from I.hok a _ ea);exact PySem.W.kia_one PySem.W.kitx_list I.kIn ⟨_,h1,rfl⟩ e (λz=>nomatch z) h
 | @tup a xs ea=>cases (show u=Value.ref a from rx);obtain⟨_,_,_,p⟩:=(show zac X.prog X.w H s.heap a (.tup xs) from I.hok a _ ea);obtain⟨o,h1,h2,_⟩:=p;exact PySem.W.kia_one PySem.W.kitx_tuple I.kIn ⟨o,h1,h2⟩ e (λz=>nomatch z) h
 | @dK a kvs ea=>cases (show u=Value.ref a from rx);obtain⟨_,_,vs,_,p⟩:=(show zac X.prog X.w H s.heap a (.dK kvs) from I.hok a _ ea);obtain⟨o,es,ep,h1,h2,_⟩:=p;exact PySem.W.kia_one PySem.W.kitx_dict I.kIn ⟨o,h1,h2.1⟩ e (λz=>nomatch z) h
 | @dT a kvs ea=>cases (show u=Value.ref a from rx);obtain⟨_,_,xs,_,o,es,ep,h1,h2,_⟩:=(show zac X.prog X.w H s.heap a (.dT kvs) from I.hok a _ ea);exact PySem.W.kia_one PySem.W.kitx_dict I.kIn ⟨o,h1,h2.1⟩ e (λz=>nomatch z) h
 | @ins a C dx fs ea cl ha hn htk hm=>cases (show u=Value.ref a from rx);obtain⟨mA,O,_⟩:=zfQ I.hok ea;obtain⟨od,J,_⟩:=O.look;exact PySem.W.kia_one (PySem.W.kitx_own (cl.get _) cl.hd ha hn htk hm) I.kIn J e (λz=>nomatch z) h
end
structure Room (k:Nat)(A:Around):Prop where
 hd:A.handled=none
 dp:A.depth+3 * k+5 < recursionLimit
 un:A.units+16 * k+200 < cLine
def Room.mono {j k:Nat}{A:Around}(r:Room k A)(h:j<=k):Room j A:=⟨r.hd,by have:=r.dp;omega,by have:=r.un;omega⟩
def Room.deeper {k:Nat}{A:Around}(r:Room (k+1) A)(env:Env):Room k (A.deeper env):=
 ⟨r.hd,by have:=r.dp;show A.depth+1+3 * k+5 < _;omega,by have:=r.un;show A.units+3+16 * k+200 < _;omega⟩
theorem zjL {A:Around}{C:Addr}{us:QN}{kw:QK}:(A.under (.builtin "type.__call__" ⟨.ref C::us,kw⟩)).depth=A.depth+1:=by
 first | rfl | simp[Around.under,Code.weight,Code.isCreation,Code.isGuard,Code.isCaller,Code.frames,Code.isFrame,guardIds]
theorem zjn {A:Around}{C:Addr}{us:QN}{kw:QK}:(A.under (.builtin "type.__call__" ⟨.ref C::us,kw⟩)).units=A.units+1:=by
 first | rfl | simp[Around.under,Code.cUnits,Code.frames,Code.isFrame]
def Room.make {k:Nat}{A:Around}(r:Room (k+1) A)(C:Addr)(us:QN)(kw:QK):Room k (A.under (.builtin "type.__call__" ⟨.ref C::us,kw⟩)):=
 ⟨r.hd,by have:=r.dp;rw[zjL];omega,by have:=r.un;rw[zjn];omega⟩
def Room.depth {k:Nat}{A:Around}(r:Room k A):A.depth < recursionLimit:=by have:=r.dp;omega
def Room.units {k:Nat}{A:Around}(r:Room k A):A.units+64 < cLine:=by have:=r.un;omega
def tNil:TA:=λ_ H Q=>Q [] H
def zku (ta:TE)(tr:TA):TA:=fun σ H Q=>ta σ H λx H1=>tr σ H1 λxs H2=>Q (x::xs) H2
section
variable {X:Cx}{e:Expr}{es:List Expr}{te:TE}{t:TA}{pos:Pos}
theorem zc:PA X [] tNil:=λ_ _ _ _ H Q I h=>Calls.spliced_nil ⟨[],H,I,.nil,h⟩
theorem za (ha:PE X e te)(hr:PA X es t)(hs:starEach (e::es) X.env=(false,eval e X.env)::starEach es X.env:=by rfl):PA X (e::es) (zku te t):=by intro pos pins s σ H Q I h;rw[hs];show wpAny _ _ (spliced ((false,eval e X.env)::backTo pos (starEach es X.env))) _ _ s;refine Calls.spliced_cons (thn (ha pins s σ H _ I h) λu s1 ⟨x,H1,I1,r1,q1⟩=>?_);exact thn (hr pos pins s1 σ H1 _ I1 q1) λus s2 ⟨xs,H2,I2,r2,q2⟩=>⟨x::xs,H2,I2,.cons r1 r2,q2⟩
def tTup (t:TA):TE:=fun σ H Q=>t σ H λxs H1=>xs.length<=sizeLine/\∀p,H1 p=none->Q (.ref p) (upd H1 p (.tup xs))
def tLst (t:TA):TE:=fun σ H Q=>t σ H λxs H1=>xs.length<=sizeLine/\∀p,H1 p=none->Q (.ref p) (upd H1 p (.lst xs))
def zbj {x1}(h:PA X es t):PE X (.Tuple es x1 pos) (tTup t):=by intro pins s σ H Q I hq;refine wpAny_Tuple_spliced (thn (h pos pins s σ H _ I hq) λus s1 ⟨xs,H1,I1,r,z,q⟩=>⟨by rw[<-r.length];exact z,?_⟩);have hf:H1 s1.heap.objs.size=none:=I1.hok.fresh (Jb _);refine⟨.ref s1.heap.objs.size,upd H1 s1.heap.objs.size (.tup xs),I1.laid (t':=s1.toks) (λb u e=>Heap.get?_push_of_some _ e) (Jb _) ?_,rfl,q _ hf⟩;exact⟨z,us,r,⟨_,Heap.get?_push_size _ rfl,rfl,_,rfl⟩⟩
def za0 (h:PA X es t):PE X (.List es pos) (tLst t):=by intro pins s σ H Q I hq;refine wpAny_List_spliced (thn (h pos pins s σ H _ I hq) λus s1 ⟨xs,H1,I1,r,z,q⟩=>⟨by rw[<-r.length];exact z,?_⟩);have hf:H1 s1.heap.objs.size=none:=I1.hok.fresh (Jb _);refine⟨.ref s1.heap.objs.size,upd H1 s1.heap.objs.size (.lst xs),I1.laid (t':=s1.toks) (λb u e=>Heap.get?_push_of_some _ e) (Jb _) ?_,rfl,q _ hf⟩;exact⟨z,us,0,r,Heap.get?_push_size _ rfl⟩
end
abbrev Sp:=List V->Hp->VK->XK->Prop
abbrev CXT:=List Env->Hp->Shared->XK->Value->Shared->Prop
structure Env0 (P:Program)(w:World)(K:QA)(mg:QB)(base:Heap)(A:Around)(outer:List Env)(s:Shared)(H:Hp):Prop where
 frames:A.frames=some outer
 mod:Mod K mg base
 bs:∀b o,base.get? b=some o->s.heap.get? b=some o/\H b=none
 bsz:base.objs.size<=s.heap.objs.size
 funs:s.heap.FunFrames base outer
 frf:∀b∈frs outer,H b=none
 hok:HOk P w H s.heap
 bare:AllBare s.gens
def CE (outer:List Env)(P:Program)(w:World)(H:Hp)(s:Shared)(Q:VK)(u:Value)(s':Shared):Prop:=
 ∃v H',s'.os=s.os/\AllBare s'.gens/\Un (frs outer) [] H H' s.heap s'.heap/\HOk P w H' s'.heap/\RelV v u/\Q v H'
def CR (CX:CXT)(outer:List Env)(P:Program)(w:World)(H:Hp)(s:Shared)(Q:VK)(E:XK)(r:Result)(s':Shared):Prop:=
 match r with
 | .ok (.ret u)=>CE outer P w H s Q u s'
 | .ok _=>False
 | .error e=>CX outer H s E e s'
structure FnOk (P:Program)(w:World)(K:QA)(mg:QB)(base:Heap)(CX:CXT)(k:Nat)(f:Addr)(fd:FuncData)(ps:QP)(sp:Sp):Prop where
 len:∀vs H Q E,sp vs H Q E->vs.length=ps.length
 run:∀(A:Around) (outer:List Env) (s:Shared) (H:Hp) (args:Args) (us:QN) (vs:QQ) (Q:VK) (E:XK),Room k A->Env0 P w K mg base A outer s H->BindsTo s fd args (ps.zip us)->Vals vs us->sp vs H Q E->
  codeAny (model P w) A (.call (.ref f) args) (CR CX outer P w H s Q E) s
def FnOk.mono {P:Program}{w:World}{K:QA}{mg:QB}{base:Heap}{CX:CXT}{j k:Nat}{f:Addr}{fd:FuncData}{ps:QP}{sp:Sp}(F:FnOk P w K mg base CX j f fd ps sp)(h:j<=k):
  FnOk P w K mg base CX k f fd ps sp:=⟨F.len,λA outer s H args us vs Q E hr=>F.run A outer s H args us vs Q E (hr.mono h)⟩
def FnOk.imp {P:Program}{w:World}{K:QA}{mg:QB}{base:Heap}{CX:CXT}{k:Nat}{f:Addr}{fd:FuncData}{ps:QP}{sp sp':Sp}(F:FnOk P w K mg base CX k f fd ps sp)
  (h:∀vs H Q E,sp' vs H Q E->sp vs H Q E):FnOk P w K mg base CX k f fd ps sp':=
 ⟨λvs H Q E q=>F.len vs H Q E (h _ _ _ _ q),λA outer s H args us vs Q E hr he hb hv hs=>F.run A outer s H args us vs Q E hr he hb hv (h _ _ _ _ hs)⟩
def Env0.make {P:Program}{w:World}{K:QA}{mg:QB}{base:Heap}{A:Around}{outer:List Env}{s:Shared}{H:Hp}(e:Env0 P w K mg base A outer s H)(C:Addr)(us:QN)(kw:QK):
  Env0 P w K mg base (A.under (.builtin "type.__call__" ⟨.ref C::us,kw⟩)) outer s H:=⟨by first | exact e.frames | (simpa [Around.under,Code.envs,Code.isFrame,pushEnvs] using e.frames),e.mod,e.bs,e.bsz,e.funs,e.frf,e.hok,e.bare⟩
section
variable {X:Cx}{pins:QE}{σ:St}{H:Hp}{s s':Shared}
def Inv.env0 (I:Inv X pins σ H s):Env0 X.prog X.w X.K X.mg X.base X.A X.stack s H:=
 ⟨I.ok.frames,I.ok.mod,I.bs,Jk I.ok.bsz I.sz,I.stack,I.stkFree,I.hok,I.bare⟩
def Inv.after {Q:VK}{u:Value}(I:Inv X pins σ H s)(h:CE X.stack X.prog X.w H s Q u s'):EP X pins σ Q u s':=by obtain⟨v,H',os,bare,un,hok,r,q⟩:=h;obtain⟨hh,g,d,t,os'⟩:=s';obtain rfl:os'=s.os:=os;exact⟨v,H',I.call (h':=hh) (g':=g) (d':=d) (t':=t) (ch:=[]) un hok bare (λb z=>Jh z (by simp)),r,q⟩
end
def zk4 (sp:Sp)(dvs:QQ)(E:XK)(t:TA):TE:=fun σ H Q=>t σ H λvs H1=>sp (vs++dvs) H1 Q E
def zkF (C:Addr)(m:Str)(sp:Sp)(dvs:QQ)(E:XK)(ta:TE)(t:TA):TE:=fun σ H Q=>ta σ H λx H1=>∃a dx fs,x=.ref a/\H1 a=some (.ins C dx fs)/\fs.lookup m=none/\
 t σ H1 λvs H2=>sp (x::(vs++dvs)) H2 Q E
def zix (C:Addr)(sp:Sp)(dvs:QQ)(E:XK)(t:TA):TE:=fun σ H Q=>t σ H λvs H1=>∀x dx,H1 x=none->H1 dx=none->dx≠x->
 sp (.ref x::(vs++dvs)) (upd (upd H1 dx (.own x)) x (.ins C dx [])) (λv H2=>v=.non/\Q (.ref x) H2) E
def Binds (K:QA)(fd:FuncData)(ps:QP)(ds:QN):Prop:=
 ∀(s:Shared) (us:QN),K.In s.heap->(us++ds).length=ps.length->BindsTo s fd ⟨us,[]⟩ (ps.zip (us++ds))
theorem Binds.all {K:QA}{fd:FuncData}{ps:QP}(h:∀us:List Value,us.length=ps.length->bindArgs fd ⟨us,[]⟩=pure (ps.zip us)):Binds K fd ps []:=λs us _ hl=>by rw[List.append_nil] at hl ⊢;exact .of_eq (h us hl)
def zbn (CX:CXT)(X:Cx)(E:XK):Prop:=∀(pins:QE) (σ:St) (H:Hp) (s:Shared) (e:Value) (s':Shared),Inv X pins σ H s->CX X.stack H s E e s'->X.xe e s'
section
variable {X:Cx}{CX:CXT}{k:Nat}{f C:Addr}{fd:FuncData}{ps:QP}{sp:Sp}{dvs:QQ}{ds:QN}{E:XK}{x m:Str}{p pos apos:Pos}{e o:Expr}{es:List Expr}{ta:TE}{t:TA}
def zig {pins:QE}{σ:St}{H:Hp}{s:Shared}{Q:VK}{us:QN}{vs:QQ}(F:FnOk X.prog X.w X.K X.mg X.base CX k f fd ps sp)(hr:Room k X.A)(hb:Binds X.K fd ps ds)(hd:Vals dvs ds)(hx:zbn CX X E)
  (I:Inv X pins σ H s) (r:Vals vs us) (h:sp (vs++dvs) H Q E):wpAny (model X.prog X.w) X.A (call (.ref f) us) (EP X pins σ Q) X.xe s:=by
 have r2:Vals (vs++dvs) (us++ds):=r.append hd;have hl:(us++ds).length=ps.length:=by rw[<-r2.length];exact F.len _ _ _ _ h
 refine wpAny_call (codeAny_mono (F.run X.A X.stack s H ⟨us,[]⟩ (us++ds) (vs++dvs) Q E hr I.env0 (hb s us I.kIn hl) r2 h) λr s' hq=>?_);cases r with
 | error e=>exact hx pins σ H s e s' I hq
 | ok fl=>
  cases fl with
  | ret u=>exact I.after hq
  | next=>exact False.elim hq
  | brk=>exact False.elim hq
  | cont=>exact False.elim hq
def zkC (F:FnOk X.prog X.w X.K X.mg X.base CX k f fd ps sp)(hr:Room k X.A)(hg:Gl X x)(hm:X.mg x=some (.ref f))(hk:PySem.W.keepIn X.K (.ref f)=true)(hb:Binds X.K fd ps ds)(hd:Vals dvs ds)(hx:zbn CX X E)
  (ha:PA X (e::es) t) (hdb:(x==("__debug__" :Str))=false:=by decide) (he:starEach (e::es) X.env=(false,eval e X.env)::starEach es X.env:=by rfl) (hpl:(backTo pos (starEach es X.env)).any (·.1)=false:=by rfl):
  PE X (.Call (.Name x p) (e::es) [] pos) (zk4 sp dvs E t):=by
 intro pins s σ H Q I h;refine wpAny_Call_Name_kw (zba I hg hm ?_ hdb);refine PySem.W.callWith_K (h₀:=X.base) I.ok.mod.kin hk (thn (ha pos pins s σ H _ I h) λus s1 ⟨vs,H1,I1,r,q⟩=>⟨I1.kIn,?_⟩) he hpl;exact zig F hr hb hd hx I1 r q
def zpl {pl:Sem Bool}(he:PE X o ta)(c:Cls X.K C)(hm:Meth X.K C m f)(F:FnOk X.prog X.w X.K X.mg X.base CX k f fd ps sp)(hr:Room k X.A)(hb:Binds X.K fd ps ds)(hd:Vals dvs ds)(hx:zbn CX X E)(ha:PA X (e::es) t)
  (hst:starEach (e::es) X.env=(false,eval e X.env)::starEach es X.env:=by rfl) (hpl:(backTo pos (starEach es X.env)).any (·.1)=false:=by rfl)
  (ht:eval (.Call (.Attribute o m apos) (e::es) [] pos) X.env=(do
   let ov<-eval o X.env
   standAt apos.atName
   let (f,first) <-holding [ov] (getMethod ov m pl)
   callWith pos f first (backTo pos (starEach (e::es) X.env)) (backToKw pos (keywordEach [] X.env))):=by rfl):
  PE X (.Call (.Attribute o m apos) (e::es) [] pos) (zkF C m sp dvs E ta t):=by
 intro pins s σ H Q I h;refine PySem.W.methodCall_KW (pl:=pl) (thn (he pins s σ H _ I h) λu s1 ⟨x,H1,I1,rx,a,dx,fs,ex,ea,l,q⟩=>?_) ht;subst ex;obtain rfl:u=Value.ref a:=rx;refine zcY I1 ea c hm l ?_;refine PySem.W.callWith_K (first:=[.ref a]) (h₀:=X.base) I.ok.mod.kin hm.kp (thn (ha pos pins s1 σ H1 _ I1 q) λus s2 ⟨vs,H2,I2,r,q2⟩=>⟨I2.kIn,?_⟩) hst hpl;exact zig (us:=.ref a::us) (vs:=.ref a::vs) F hr hb hd hx I2 (.cons rfl r) q2
def zmF {pl:Sem Bool}(he:PE X o ta)(c:Cls X.K C)(hm:Meth X.K C m f)(F:FnOk X.prog X.w X.K X.mg X.base CX k f fd ps sp)(hr:Room k X.A)(hb:Binds X.K fd ps ds)(hd:Vals dvs ds)(hx:zbn CX X E)
  (ht:eval (.Call (.Attribute o m apos) [] [] pos) X.env=(do
   let ov<-eval o X.env
   standAt apos.atName
   let (f,first) <-holding [ov] (getMethod ov m pl)
   callWith pos f first (backTo pos (starEach [] X.env)) (backToKw pos (keywordEach [] X.env))):=by rfl):
  PE X (.Call (.Attribute o m apos) [] [] pos) (zkF C m sp dvs E ta tNil):=by
 intro pins s σ H Q I h;refine PySem.W.methodCall_KW (pl:=pl) (thn (he pins s σ H _ I h) λu s1 ⟨x,H1,I1,rx,a,dx,fs,ex,ea,l,q⟩=>?_) ht;subst ex;obtain rfl:u=Value.ref a:=rx;refine zcY I1 ea c hm l ?_;exact PySem.W.callWith_K0 (first:=[.ref a]) I1.kIn hm.kp (zig (us:=[.ref a]) (vs:=[.ref a]) F hr hb hd hx I1 (.cons rfl .nil) q)
structure Mk (K:QA)(C f:Addr):Prop where
 makes:PySem.W.makesIn K C=true
 init:PySem.W.findIn K (.ref C) "__init__" =some (some (.ref f))
 fn:PySem.W.isFn K (.ref f)=true
 kp:PySem.W.keepIn K (.ref C)=true
def zi6 {pins:QE}{σ:St}{H:Hp}{s:Shared}{Q:VK}{us:QN}{vs:QQ}(M:Mk X.K C f)(F:FnOk X.prog X.w X.K X.mg X.base CX k f fd ps sp)(hr:Room (k+1) X.A)(hb:Binds X.K fd ps ds)(hd:Vals dvs ds)
  (hx:zbn CX X E) (I:Inv X pins σ H s) (r:Vals vs us)
  (h:∀x dx,H x=none->H dx=none->dx≠x->sp (.ref x::(vs++dvs)) (upd (upd H dx (.own x)) x (.ins C dx [])) (λv H2=>v=.non/\Q (.ref x) H2) E):
  wpAny (model X.prog X.w) X.A (call (.ref C) us) (EP X pins σ Q) X.xe s:=by
 have hq:=h (s.heap.objs.size+1) s.heap.objs.size (I.hok.fresh (Nat.le_succ _)) (I.hok.fresh (Jb _)) (Jl (Nat.lt_succ_self _));have I2:=Inv.made (C:=C) I;have r2:Vals (V.ref (s.heap.objs.size+1)::(vs++dvs)) (Value.ref (s.heap.objs.size+1)::(us++ds)):=.cons rfl (r.append hd);have hl:(Value.ref (s.heap.objs.size+1)::us++ds).length=ps.length:=by have e:=r2.length;rw[F.len _ _ _ _ hq] at e;exact e.symm
 refine wpAny_call (zmV (f:=f) I.kIn M.makes M.init (beq_iff_eq.mp M.fn) (codeAny_mono (F.run _ X.stack _ _ ⟨Value.ref (s.heap.objs.size+1)::us,[]⟩ (Value.ref (s.heap.objs.size+1)::(us++ds)) _ _ E (hr.make C us [])
  (I2.env0.make C us []) (hb _ (Value.ref (s.heap.objs.size+1)::us) I2.kIn hl) r2 hq) λr s' hq'=>?_))
 cases r with
 | error e=>exact hx pins σ _ _ e s' I2 hq'
 | ok fl=>
  cases fl with
  | ret u=>obtain⟨v,H',I3,rv,ev,q3⟩:=I2.after hq';subst ev;exact⟨rv,⟨V.ref (s.heap.objs.size+1),H',I3,rfl,q3⟩⟩
  | next=>exact False.elim hq'
  | brk=>exact False.elim hq'
  | cont=>exact False.elim hq'
def zk6 (M:Mk X.K C f)(F:FnOk X.prog X.w X.K X.mg X.base CX k f fd ps sp)(hr:Room (k+1) X.A)(hg:Gl X x)(hm:X.mg x=some (.ref C))(hb:Binds X.K fd ps ds)(hd:Vals dvs ds)(hx:zbn CX X E)
  (ha:PA X (e::es) t) (hdb:(x==("__debug__" :Str))=false:=by decide) (he:starEach (e::es) X.env=(false,eval e X.env)::starEach es X.env:=by rfl) (hpl:(backTo pos (starEach es X.env)).any (·.1)=false:=by rfl):
  PE X (.Call (.Name x p) (e::es) [] pos) (zix C sp dvs E t):=by
 intro pins s σ H Q I h;refine wpAny_Call_Name_kw (zba I hg hm ?_ hdb);refine PySem.W.callWith_K (h₀:=X.base) I.ok.mod.kin M.kp (thn (ha pos pins s σ H _ I h) λus s1 ⟨vs,H1,I1,r,q⟩=>⟨I1.kIn,?_⟩) he hpl;exact zi6 M F hr hb hd hx I1 r q
def zmr (M:Mk X.K C f)(F:FnOk X.prog X.w X.K X.mg X.base CX k f fd ps sp)(hr:Room (k+1) X.A)(hg:Gl X x)(hm:X.mg x=some (.ref C))(hb:Binds X.K fd ps ds)(hd:Vals dvs ds)(hx:zbn CX X E)
  (hdb:(x==("__debug__" :Str))=false:=by decide):PE X (.Call (.Name x p) [] [] pos) (zix C sp dvs E tNil):=by
 intro pins s σ H Q I h;refine wpAny_Call_Name_kw (zba I hg hm ?_ hdb);exact PySem.W.callWith_K0 I.kIn M.kp (zi6 (us:=[]) M F hr hb hd hx I .nil h)
end
section
variable {X:Cx}{CX:CXT}{k:Nat}{f C:Addr}{fd:FuncData}{ps ks:QP}{sp:Sp}{E:XK}{x m:Str}{p pos apos kpos:Pos}{e o:Expr}{es:List Expr}{kws:List Keyword}{te ta:TE}{t tk:TA}{nm:Option Str}
structure zr1 (K:QA)(fd:FuncData)(ps ks:QP)(g:List Value->List Value->List Value)(gV:List V->List V->List V):Prop where
 to:∀(s:Shared) (us ws:QN),K.In s.heap->(g us ws).length=ps.length->BindsTo s fd ⟨us,ks.zip ws⟩ (ps.zip (g us ws))
 rel:∀{vs:QQ} {us:QN} {zs:QQ} {ws:QN},Vals vs us->Vals zs ws->Vals (gV vs zs) (g us ws)
variable {g:List Value->List Value->List Value}{gV:List V->List V->List V}
end
structure zr (N P:QP)(sc:Scope):Prop where
 kind:sc.kind=.function
 co:sc.isCoroutine=false
 gen:sc.isGenerator=false
 nd:N.Nodup
 pre:N.take P.length=P
 par:∀x∈P,sc.names.lookup x=some .local\/sc.names.lookup x=some .cell
 nofree:∀y∈sc.names,y.2≠ .free
def fsc {N P:QP}{sc:Scope}(h:sc.kind=.function/\sc.isCoroutine=false/\sc.isGenerator=false/\N.Nodup/\N.take P.length=P/\(∀x∈P,sc.names.lookup x=some .local\/sc.names.lookup x=some .cell)/\∀y∈sc.names,y.2≠ .free):zr N P sc:=⟨h.1,h.2.1,h.2.2.1,h.2.2.2.1,h.2.2.2.2.1,h.2.2.2.2.2.1,h.2.2.2.2.2.2⟩
theorem zhn {kindOf:Str->Option NameKind}{x:Str}:∀{binds:QK} {m:QB},(∀v,(x,v)∉binds)->bindL kindOf binds m x=m x
 | [],_,_=>rfl
 | (n,v)::r,m,h=>by
  unfold bindL;rw[zhn λw hw=>h w (Jn _ hw)];split
  ·have:x≠n:=by rintro rfl;exact h v List.mem_cons_self
   simp[this]
  ·rfl
theorem zg9 {kindOf:Str->Option NameKind}{x:Str}:∀{binds:QK} {m:QB},(∀v,(x,v)∉binds)->bindC kindOf binds m x=m x
 | [],_,_=>rfl
 | (n,v)::r,m,h=>by
  unfold bindC;rw[zg9 λw hw=>h w (Jn _ hw)];split
  ·rfl
  ·have:x≠n:=by rintro rfl;exact h v List.mem_cons_self
   simp[this]
theorem zhe {kindOf:Str->Option NameKind}{x:Str}{v:Value}:∀{P:QP} {vs:QN} {i:Nat} {m:QB},P.Nodup->P[i]? =some x->vs[i]? =some v->kindOf x=some .local->
  bindL kindOf (P.zip vs) m x=some v
 | [],_,_,_,_,h,_,_=>by simp at h
 | _::_,[],_,_,_,_,h,_=>by simp at h
 | p::P,w::vs,0,m,nd,h1,h2,hk=>by simp at h1 h2;subst h1;subst h2;show bindL kindOf ((p,w)::P.zip vs) m p=_;unfold bindL;rw[zhn λv hv=>(List.nodup_cons.mp nd).1 (List.of_mem_zip hv).1,if_pos hk];simp
 | p::P,w::vs,i+1,m,nd,h1,h2,hk=>by show bindL kindOf ((p,w)::P.zip vs) m x=_;unfold bindL;exact zhe (i:=i) (List.nodup_cons.mp nd).2 (by simpa using h1) (by simpa using h2) hk
theorem zhy {kindOf:Str->Option NameKind}{x:Str}{v:Value}:∀{P:QP} {vs:QN} {i:Nat} {m:QB},P.Nodup->P[i]? =some x->vs[i]? =some v->kindOf x≠some .local->
  bindC kindOf (P.zip vs) m x=some v
 | [],_,_,_,_,h,_,_=>by simp at h
 | _::_,[],_,_,_,_,h,_=>by simp at h
 | p::P,w::vs,0,m,nd,h1,h2,hk=>by simp at h1 h2;subst h1;subst h2;show bindC kindOf ((p,w)::P.zip vs) m p=_;unfold bindC;rw[zg9 λv hv=>(List.nodup_cons.mp nd).1 (List.of_mem_zip hv).1,if_neg hk];simp
 | p::P,w::vs,i+1,m,nd,h1,h2,hk=>by show bindC kindOf ((p,w)::P.zip vs) m x=_;unfold bindC;exact zhy (i:=i) (List.nodup_cons.mp nd).2 (by simpa using h1) (by simpa using h2) hk
def start (N:QP)(vs:QQ):St:=vs.map some++List.replicate (N.length - vs.length) none
def cxOf (CX:CXT)(P:Program)(w:World)(K:QA)(mg:QB)(base:Heap)(N:QP)(qual:Str)(scope:Scope)(f:Addr)(cd:Value)(A:Around)(outer:List Env)(s:Shared)(H:Hp)(E:XK):Cx where
 prog:=P
 w:=w
 K:=K
 mg:=mg
 base:=base
 A:=A.deeper (envOfC qual scope s.heap.objs.size f cd)
 N:=N
 s₀:=s
 H₀:=H
 env:=envOfC qual scope s.heap.objs.size f cd
 outer:=outer
 stack:=envOfC qual scope s.heap.objs.size f cd::outer
 ex:=[]
 calm:=true
 fn:=λ_=>true
 pn:=[]
 xe:=λe s'=>wpAny (model P w) (A.deeper (envOfC qual scope s.heap.objs.size f cd)) (leaving (envOfC qual scope s.heap.objs.size f cd) e) (λ_ s''=>CX outer H s E e s'') (λe' s''=>CX outer H s E e' s'') s'
def zi2 {sc:Scope}{n:Nat}{x:Str}(h:sc.names.lookup x=some .cell):∃c,(cellsFrom n sc.names []).lookup x=some c:=by have q:=PySem.W.cellsFrom_some sc.names n [] (.inl h);exact Option.isSome_iff_exists.mp q
def zlZ {CX:CXT}{P:Program}{w:World}{K:QA}{mg:QB}{base:Heap}{N ps:QP}{qual:Str}{scope:Scope}{f:Addr}{cd:Value}{A:Around}{outer:List Env}{s s1:Shared}{H:Hp}{E:XK}{us:QN}{vs:QQ}
  (S:zr N ps scope) (hd:A.handled=none) (e0:Env0 P w K mg base A outer s H) (hl:vs.length=ps.length) (r:Vals vs us)
  (x:InCallC s s.heap.objs.size (bindL (envOfC qual scope s.heap.objs.size f cd).kindOf (ps.zip us) λ_=>none) (cellsFrom (s.heap.objs.size+1) scope.names []) (bindC (envOfC qual scope s.heap.objs.size f cd).kindOf (ps.zip us) λ_=>none) s1):
  Inv (cxOf CX P w K mg base N qual scope f cd A outer s H E) [] (start N vs) H s1:=by
 have hpl:ps.length<=N.length:=by have:=congrArg List.length S.pre;rw[List.length_take] at this;omega
 obtain⟨h1,tk,rfl,hk⟩:=x.done;have noA:∀b:Addr,b∉(cxOf CX P w K mg base N qual scope f cd A outer s H E).ex:=λb z=>Jh (show b∈([]:QO) from z) (by simp);refine⟨⟨e0.mod,S.kind,rfl,rfl,Jb _,λy z c h1 h2=>?_,λy hy=>?_,λy c _ h=>?_,λ_=>hd,Around.frames_deeper e0.frames,.inr ⟨rfl,rfl⟩,λb z=>Jh z (noA b),e0.bs,e0.bsz,λb _ _=>noA b,λb z=>Jh z (noA b),e0.funs,e0.frf⟩,
  rfl,e0.bare,Un.kept hk,⟨_,x.toInCall.ns,λi y v h1 h2 h3=>?_⟩,λy c h=>⟨_,x.cell y c h⟩,e0.hok.fresh (Jb _),λy c h=>?_,λp hp=>Jh (show p∈([]:QE) from hp) (by simp),e0.hok.kept hk,?_⟩
 ·exact name_of_addr x.apart (PySem.mem_of_lookup h1) (PySem.mem_of_lookup h2)
 ·have hy:scope.names.lookup y=some .cell\/scope.names.lookup y=some .free:=hy;rcases hy with hy | hy
  ·exact zi2 hy
  ·exact Jh rfl (S.nofree _ (PySem.mem_of_lookup hy))
 ·exact Nat.le_of_lt (x.above y c (PySem.mem_of_lookup h))
 ·have hi:i < vs.length:=by
   unfold start at h2;by_cases hi:i < vs.length
   ·exact hi
   ·rw[List.getElem?_append_right (by simpa using hi)] at h2;rw[List.getElem?_replicate] at h2;split at h2 <;> cases h2
  have ha:vs[i]? =some v:=by
   unfold start at h2;rw[List.getElem?_append_left (by simpa using hi),List.getElem?_map] at h2;cases e:vs[i]? with
   | none=>rw[e] at h2;cases h2
   | some a=>rw[e] at h2;cases h2;rfl
  obtain⟨u,hu,rv⟩:=r.get ha;have hp:ps[i]? =some y:=by rw[<-S.pre,List.getElem?_take_of_lt (by omega)];exact h1
  have ndP:ps.Nodup:=by rw[<-S.pre];exact S.nd.sublist (List.take_sublist _ _)
  refine⟨u,rv,?_⟩;rcases S.par y (List.mem_of_getElem? hp) with k | k
  ·exact .inl ⟨k,zhe ndP hp hu k⟩
  ·obtain⟨c,e⟩:=zi2 (n:=s.heap.objs.size+1) k;refine .inr ⟨.inl k,c,e,?_⟩;have q:=x.cell y c e;rw[zhy ndP hp hu (by show scope.names.lookup y≠_;rw[k];decide)] at q;exact q
 ·exact e0.hok.fresh (Nat.le_of_lt (x.above y c (PySem.mem_of_lookup h)))
 ·unfold start;show _=N.length;rw[List.length_append,List.length_map,List.length_replicate];omega
abbrev _root_.QJ:=Array (Option Value)
def zpR {CX:CXT}{P:Program}{w:World}{K:QA}{mg:QB}{base:Heap}{k:Nat}{f:Addr}{name qual:Str}{params:Arguments}{body:List Stmt}{scope:Scope}{dV kV doc pm cdv ct oc:Value}{an od:QM}
  {osl:QJ} {N ps:QP} {sp:Sp} (lk:K.lookup f=some ⟨oc,od,.func (PySem.W.fnOf name qual params body scope dV kV doc pm an cdv ct),osl⟩) (hcd:PySem.W.codeIn K cdv qual=true) (S:zr N ps scope)
  (len:∀vs H Q E,sp vs H Q E->vs.length=ps.length)
  (hbody:∀(A:Around) (outer:List Env) (s:Shared) (H:Hp) (vs:QQ) (Q:VK) (E:XK),Room k (A.deeper (envOfC qual scope s.heap.objs.size f cdv))->sp vs H Q E->
   ∃t,PSs (cxOf CX P w K mg base N qual scope f cdv A outer s H E) body t/\t {nx:=λ_ H'=>Q .non H',rt:=Q} (start N vs) H):
  FnOk P w K mg base CX (k+1) f (PySem.W.fnOf name qual params body scope dV kV doc pm an cdv ct) ps sp:=by
 refine⟨len,λA outer s H args us vs Q E hr e0 hb r hsp=>?_⟩;have hl:=len _ _ _ _ hsp;have KX:K.In s.heap:=e0.mod.kin.keeps λb o e=>(e0.bs b o e).1;have lim:s.heap.NoLimit:=e0.mod.nolimit.keeps λb o e=>(e0.bs b o e).1;have hkind:∀y∈ps.zip us,scope.names.lookup y.1=some .local\/(scope.names.lookup y.1=some .cell/\((cellsFrom (s.heap.objs.size+1) scope.names []).lookup y.1).isSome=true):=λ⟨n,v⟩ hy=>by
  rcases S.par n (List.of_mem_zip hy).1 with q | q
  ·exact .inl q
  ·exact .inr ⟨q,PySem.W.cellsFrom_some _ _ _ (.inl q)⟩
 refine codeAny_call_function hr.depth (KX _ _ lk) rfl S.co S.gen rfl (PySem.W.codeRec_of KX hcd) (hb _ _ _ _ ?_);refine wpAny_newFunctionEnv_cells S.kind hkind λenv he s1 x=>?_;subst he;refine⟨lim.keeps x.toInCall.keep,codeAny_func ?_⟩;obtain⟨t,ht,hq⟩:=hbody A outer s H vs Q E (hr.deeper _) hsp;have I:Inv (cxOf CX P w K mg base N qual scope f cdv A outer s H E) [] (start N vs) H s1:=zlZ S hr.hd e0 hl r x;refine wpAny_mono (ht [] s1 (start N vs) H _ I hq) (λfl s' hs=>?_) λe s' hs=>hs;have fin:∀{σ':St} {H':Hp} {v:V} {u:Value},Inv (cxOf CX P w K mg base N qual scope f cdv A outer s H E) [] σ' H' s'->RelV v u->Q v H'->CE outer P w H s Q u s':=
  λ{σ' H' v u} J rv q=>⟨v,H',J.os,J.bare,J.base,J.hok,rv,q⟩
 cases fl with
 | ret u=>obtain⟨v,σ',H',J,rv,q⟩:=hs;exact fin J rv q
 | next=>obtain⟨σ',H',J,q⟩:=hs;exact fin (v:=V.non) (u:=Value.none) J rfl q
 | brk=>obtain⟨_,_,_,q⟩:=hs;exact False.elim q
 | cont=>obtain⟨_,_,_,q⟩:=hs;exact False.elim q
section
variable {X:Cx}{x:Str}{p pos:Pos}{e:Expr}{es:List Expr}{t:TA}{id T:String}{r:List V->Hp->VK->Prop}
def tCB (r:List V->Hp->VK->Prop)(t:TA):TE:=fun σ H Q=>t σ H λvs H1=>r vs H1 Q
def zF (hc:zbg X (.builtin id) r)(hg:Gl X x)(hm:X.mg x=none)(hv:bootBuiltins x=some (.builtin id))(ha:PA X (e::es) t)(hn:x≠ "__name__" :=by decide) (hdb:(x==("__debug__" :Str))=false:=by decide)
  (he:starEach (e::es) X.env=(false,eval e X.env)::starEach es X.env:=by rfl) (hpl:(backTo pos (starEach es X.env)).any (·.1)=false:=by rfl):PE X (.Call (.Name x p) (e::es) [] pos) (tCB r t):=by
 intro pins s σ H Q I h;refine wpAny_Call_Name_kw (zda I hg hm hv ?_ hn hdb);exact PyProof.Rows.callWith_builtin1 (thn (ha pos pins s σ H _ I h) λus s1 ⟨vs,H1,I1,r1,q1⟩=>hc pins s1 σ H1 vs us Q I1 r1 q1) he hpl
def ze5 (hc:zbg X (.type T) r)(hg:Gl X x)(hm:X.mg x=none)(hv:bootBuiltins x=some (.type T))(ha:PA X (e::es) t)(hn:x≠ "__name__" :=by decide) (hdb:(x==("__debug__" :Str))=false:=by decide)
  (he:starEach (e::es) X.env=(false,eval e X.env)::starEach es X.env:=by rfl) (hpl:(backTo pos (starEach es X.env)).any (·.1)=false:=by rfl):PE X (.Call (.Name x p) (e::es) [] pos) (tCB r t):=by
 intro pins s σ H Q I h;refine wpAny_Call_Name_kw (zda I hg hm hv ?_ hn hdb);exact PyProof.Rows.callWith_type1 (thn (ha pos pins s σ H _ I h) λus s1 ⟨vs,H1,I1,r1,q1⟩=>hc pins s1 σ H1 vs us Q I1 r1 q1) he hpl
end
end L2
namespace HT
open PySem PyProof.Rows
def lexLt:List Int->List Int->Bool
 | [],[]=>false
 | [],_::_=>true
 | _::_,[]=>false
 | x::xs,y::ys=>if x=y then lexLt xs ys else decide (x < y)
theorem lexLt_cons (x y:Int)(xs ys:List Int):lexLt (x::xs) (y::ys)=if x=y then lexLt xs ys else decide (x < y):=rfl
section
open PySem.SeqAt
open PySem.AutoSeq1 (wpAny_loadPart')
open PySem.MeetsSeq PySem.MeetsSeq2 PySem.MeetsSeq3
end
section
variable {prog:Program}{w:World}{A:Around}{E:QC}{s:Shared}
def sIx (n d:Nat):Option Int->Nat
 | none=>d
 | some v=>if v < 0 then(v+(n:Int)).toNat else min v.toNat n
theorem sIx_none (n d:Nat):sIx n d none=d:=rfl
theorem sIx_nat (n d k:Nat):sIx n d (some (k:Int))=min k n:=by show(if (k:Int) < 0 then((k:Int)+(n:Int)).toNat else min (k:Int).toNat n)=min k n;rw[if_neg (by omega),Int.toNat_natCast]
def sIx_le (n d:Nat)(hd:d<=n)(o:Option Int):sIx n d o<=n:=by
 cases o with
 | none=>exact hd
 | some v=>
  show(if v < 0 then(v+(n:Int)).toNat else min v.toNat n)<=n;by_cases hv:v < 0
  ·rw[if_pos hv];omega
  ·rw[if_neg hv];exact Nat.min_le_right _ _
theorem clip_eq (v:Int)(n d:Nat):(if v < 0 then max (v+(n:Int)) 0 else min v (n:Int))=((sIx n d (some v):Nat):Int):=by
 show(if v < 0 then max (v+(n:Int)) 0 else min v (n:Int))=(((if v < 0 then(v+(n:Int)).toNat else min v.toNat n):Nat):Int);by_cases hv:v < 0
 ·simp only[if_pos hv];omega
 ·simp only[if_neg hv];omega
end
end HT
namespace L2
open PySem PySem.Spec PyProof.Rows
abbrev TO:=St->Hp->(Option Int->Hp->Prop)->Prop
def PO (X:Cx)(e:Option Expr)(t:TO):Prop:=
 ∀(pins:QE) (s:Shared) (σ:St) (H:Hp) (Q:Option Int->Hp->Prop),Inv X pins σ H s->t σ H Q->
  wpAny (model X.prog X.w) X.A (evalPart e X.env) (λu s'=>∃o H',Inv X pins σ H' s'/\IsPart u o/\Q o H') X.xe s
def zoK:TO:=λ_ H Q=>Q none H
def zrD (t:TE):TO:=fun σ H Q=>t σ H λx H1=>∃i,x=.int i/\Q (some i) H1
section
variable {X:Cx}{e:Expr}{te:TE}{lo hi:Option Expr}{tl th:TO}{pos p2:Pos}
def zer:PO X none zoK:=by intro pins s σ H Q I h;rw[evalPart_none];exact wpAny_pure ⟨none,H,I,.none,h⟩
def zb5 (h:PE X e te):PO X (some e) (zrD te):=by intro pins s σ H Q I hw;rw[evalPart_some];refine thn (h pins s σ H _ I hw) λu s1 ⟨x,H1,I1,r1,q1⟩=>?_;obtain⟨i,rfl,q⟩:=q1;obtain⟨t,rfl⟩:=r1;exact⟨some i,H1,I1,.int i t,q⟩
def SlR (X:Cx)(r:V->Option Int->Option Int->Hp->VK->Prop):Prop:=
 ∀(pins:QE) (s:Shared) (σ:St) (H:Hp) (x:V) (v vl vu:Value) (lo hi:Option Int) (sl:Addr) (Q:VK),Inv X pins σ H s->RelV x v->s.heap.IsSliceOf sl vl vu .none->IsPart vl lo->IsPart vu hi->r x lo hi H Q->
  ∃T id,typeLookup (.type T) "__getitem__" =pure (some (.builtin id))/\s.TypeIs v T/\wpAny (model X.prog X.w) X.A (getItem v (.ref sl)) (EP X pins σ Q) X.xe s
def tSl (r:V->Option Int->Option Int->Hp->VK->Prop)(te:TE)(tl th:TO):TE:=fun σ H Q=>te σ H λx H1=>tl σ H1 λl H2=>th σ H2 λu H3=>r x l u H3 Q
def zcf {r:V->Option Int->Option Int->Hp->VK->Prop}(hr:SlR X r)(he:PE X e te)(hl:PO X lo tl)(hu:PO X hi th):PE X (.Subscript e (.Slice lo hi none p2) pos) (tSl r te tl th):=by intro pins s σ H Q I h;refine Subscript_ (thn (he pins s σ H _ I h) λv s1 ⟨x,H1,I1,r1,q1⟩=>?_);refine wpAny_Slice (thn (hl pins s1 σ H1 _ I1 q1) λvl s2 ⟨l,H2,I2,pl,q2⟩=>thn (hu pins s2 σ H2 _ I2 q2) λvu s3 ⟨u,H3,I3,pu,q3⟩=>?_);rw[evalPart_none];refine wpAny_pure ?_;have I4:Inv X pins σ H3 {s3 with heap:=s3.heap.push {cls:=.type "slice",data:=.fields #[vl,vu,.none]}}:=I3.kept (t':=s3.toks) λb ob q=>Heap.get?_push_of_some _ q;obtain⟨T,id,hT,ht,hg⟩:=hr pins {s3 with heap:=s3.heap.push {cls:=.type "slice",data:=.fields #[vl,vu,.none]}} σ H3 x v vl vu l u s3.heap.objs.size Q I4 r1 (Heap.IsSliceOf.new ..) pl pu q3;show wpAny (model X.prog X.w) X.A (subscriptTail e (.Slice lo hi none p2) v (.ref s3.heap.objs.size)) (EP X pins σ Q) X.xe {s3 with heap:=s3.heap.push {cls:=.type "slice",data:=.fields #[vl,vu,.none]}};exact tail_any (ops:=[.ref s3.heap.objs.size,v]) ht hT hg (by with_unfolding_all rfl)
def cutV (xs:QQ)(lo hi:Option Int):List V:=(xs.drop (HT.sIx xs.length 0 lo)).take (HT.sIx xs.length xs.length hi - HT.sIx xs.length 0 lo)
def ziS (xs:QQ)(lo hi:Option Int):(cutV xs lo hi).length<=xs.length:=by unfold cutV;rw[List.length_take,List.length_drop];omega
end
def ixN (n:Nat)(i:Int):Option Nat:=if 0<=i then(if i < n then some i.toNat else none) else if -(n:Int)<=i then some (i+n).toNat else none
def atI {α:Type}(xs:List α)(i:Int):Option α:=(ixN xs.length i).bind λj=>xs[j]?
def zoJ {n:Nat}{i:Int}{j:Nat}(h:ixN n i=some j):seqIndex? i n=some j/\j < n/\ -(n:Int)<=i/\i < n:=by
 unfold ixN at h;by_cases h0:0<=i
 ·rw[if_pos h0] at h;by_cases h1:i < n
  ·rw[if_pos h1] at h;have e:i.toNat=j:=Option.some.inj h;exact⟨by rw[seqIndex_of h0 h1,e],by omega,by omega,h1⟩
  ·rw[if_neg h1] at h;cases h
 ·rw[if_neg h0] at h;by_cases h1: -(n:Int)<=i
  ·rw[if_pos h1] at h;have e:(i+n).toNat=j:=Option.some.inj h;exact⟨by rw[seqIndex_neg (by omega) h1,e],by omega,h1,by omega⟩
  ·rw[if_neg h1] at h;cases h
def zh2 {α:Type}{xs:List α}{i:Int}{v:α}(h:atI xs i=some v):∃j,seqIndex? i xs.length=some j/\xs[j]? =some v/\j < xs.length/\ -(xs.length:Int)<=i/\i < xs.length:=by
 unfold atI at h;cases e:ixN xs.length i with
 | none=>rw[e] at h;cases h
 | some j=>rw[e] at h;obtain⟨h1,h2,h3,h4⟩:=zoJ e;exact⟨j,h1,h,h2,h3,h4⟩
theorem zfP {α:Type}{xs:List α}{j:Nat}{v:α}(h:xs[j]? =some v):atI xs (j:Int)=some v:=by
 have hj:j < xs.length:=(List.getElem?_eq_some_iff.mp h).1;have e:ixN xs.length (j:Int)=some j:=by unfold ixN;rw[if_pos (by omega),if_pos (by omega)];simp
 unfold atI;rw[e];exact h
def zeh {α:Type}(xs:List α)(v:α):atI (xs++ [v]) (-1)=some v:=by
 have hl:(xs++ [v]).length=xs.length+1:=by simp
 have e:ixN (xs++ [v]).length (-1)=some xs.length:=by unfold ixN;rw[hl,if_neg (by decide),if_pos (by omega)];congr 1;omega
 unfold atI;rw[e];show(xs++ [v])[xs.length]? =some v;simp
def zpp (b:Expr):Prop:=∀o i,subscripted b false o i=operate [o,i] (getItem o i)
def IxR (X:Cx)(r:R2):Prop:=
 ∀(value slice:Expr) (pins:QE) (s:Shared) (σ:St) (H:Hp) (x y:V) (v u:Value) (Q:VK),Inv X pins σ H s->RelV x v->RelV y u->r x y H Q->
  subscripted slice false v u=operate [v,u] (getItem v u)->wpAny (model X.prog X.w) X.A (subscriptTail value slice v u) (EP X pins σ Q) X.xe s
def MtR (X:Cx)(id:String)(r:V->List V->Hp->VK->Prop):Prop:=
 ∀(pins:QE) (s:Shared) (σ:St) (H:Hp) (x:V) (xs:QQ) (v:Value) (us:QN) (Q:VK),Inv X pins σ H s->RelV x v->Vals xs us->r x xs H Q->
  wpAny (model X.prog X.w) X.A (call (.builtin id) (v::us)) (EP X pins σ Q) X.xe s
section
variable {X:Cx}{a b:Expr}{ta tb:TE}{pos:Pos}
def zH {r:R2}(hr:IxR X r)(ha:PE X a ta)(hb:PE X b tb)(hs:zpp b):PE X (.Subscript a b pos) (tOp r ta tb):=by intro pins s σ H Q I h;exact Subscript_ (binT ha hb I h λv u s2 x y H2 I2 rx ry q=>hr a b pins s2 σ H2 x y v u Q I2 rx ry q (hs _ _))
def rIxL (K:QA):R2:=λx y H Q=>∃p xs i v,x=.ref p/\y=.int i/\SqL K H p xs/\atI xs i=some v/\Q v H
def rIxT (K:QA):R2:=λx y H Q=>∃p xs i v,x=.ref p/\y=.int i/\SqT K H p xs/\atI xs i=some v/\Q v H
def rIxS:R2:=λx y H Q=>∃z i c,x=.str z/\y=.int i/\z.length<=sizeLine/\atI z.cps.toList i=some c/\Q (.str ⟨#[c]⟩) H
def zaL:IxR X (rIxL X.K):=by
 intro value slice pins s σ H x y v u Q I rx ry h hs;obtain⟨p,xs,i,z,rfl,rfl,hq,he,q⟩:=h;cases rx;obtain⟨t,rfl⟩:=ry;obtain⟨its,r,pl,hz⟩:=I.list hq;obtain⟨j,h1,h2,h3,h4,h5⟩:=zh2 he;obtain⟨w,ew,rw'⟩:=r.get h2;have hl:=r.length;have hn:=zgK;have fin:EP X pins σ Q w s:=⟨z,H,I,rw',q⟩;by_cases h0:0<=i
 ·have hj:i.toNat=j:=by rw[seqIndex_of h0 h5] at h1;exact Option.some.inj h1
  exact item_listR pl.isList h0 (by omega) (by rw[hj];simpa using ew) fin hs
 ·have hj:(i+(its.toArray.size:Int)).toNat=j:=by rw[seqIndex_neg (by omega) h4] at h1;rw[List.size_toArray,<-hl];exact Option.some.inj h1
  exact subscriptTail_builtinR (x:=w) pl.isList.typeIs slot_list_getitem.lookup
   (wpAny_getItem_list_neg (Q:=λr s'=>r=w/\EP X pins σ Q r s') pl.isList (by omega) (by rw[List.size_toArray] <;> omega) (by omega) (by rw[hj];simpa using ew) ⟨rfl,fin⟩) hs
def zI:IxR X (rIxT X.K):=by
 intro value slice pins s σ H x y v u Q I rx ry h hs;obtain⟨p,xs,i,z,rfl,rfl,hq,he,q⟩:=h;cases rx;obtain⟨t,rfl⟩:=ry;obtain⟨its,r,pl,hz⟩:=I.tuple hq;obtain⟨j,h1,h2,h3,h4,h5⟩:=zh2 he;obtain⟨w,ew,rw'⟩:=r.get h2;have hl:=r.length;have hn:=zgK;have fin:EP X pins σ Q w s:=⟨z,H,I,rw',q⟩;exact subscriptTail_builtinR (x:=w) pl.typeIs slot_tuple_getitem.lookup
  (getItem_tuple (j:=j) (Q:=λr s'=>r=w/\EP X pins σ Q r s') pl (by omega) (by omega) (by rw[List.size_toArray,<-hl];exact h1) (by simpa using ew) ⟨rfl,fin⟩) hs
def zms:IxR X rIxS:=by
 intro value slice pins s σ H x y v u Q I rx ry h hs;obtain⟨z,i,c,rfl,rfl,hz,he,q⟩:=h;obtain⟨t,rfl⟩:=rx;obtain⟨t',rfl⟩:=ry;obtain⟨j,h1,h2,h3,h4,h5⟩:=zh2 he;have hl:z.cps.toList.length=z.length:=by simp[Str.length]
 rw[hl] at h1 h4 h5;have hn:=zgK;exact tail_any (typeIs_str s z t) slot_str_getitem.lookup (getItem_str (c:=c) (by
  have e1:decide (i < -(2 ^ 63:Int))=false:=Je (by omega);have e2:decide (i≥2 ^ 63)=false:=Je (by omega);rw[e1,e2,Bool.or_false]) (by rw[h1];simpa using h2) ⟨.str ⟨#[c]⟩,H,I.tok _,⟨_,rfl⟩,q⟩) hs
def zp3 (i:Int)(n d:Nat):max 0 (min (if i < 0 then i+(n:Int) else i) (n:Int))=((HT.sIx n d (some i):Nat):Int):=by
 simp only[HT.sIx];by_cases h:i < 0
 ·simp only[h,if_true] <;> omega
 ·simp only[h,if_false] <;> omega
def zhQ (lo hi:Option Int)(n:Nat):(sliceBounds lo hi none n).1=((HT.sIx n 0 lo:Nat):Int)/\(sliceBounds lo hi none n).2.1=((HT.sIx n n hi:Nat):Int)/\(sliceBounds lo hi none n).2.2=1:=by
 refine⟨?_,?_,rfl⟩
 ·cases lo with
  | none=>simp[sliceBounds,HT.sIx]
  | some i=>(simp only[sliceBounds,Option.getD_none,show(1:Int) > 0 by decide,if_true];exact zp3 i n 0)
 ·cases hi with
  | none=>simp[sliceBounds,HT.sIx]
  | some i=>(simp only[sliceBounds,Option.getD_none,show(1:Int) > 0 by decide,if_true];exact zp3 i n n)
theorem zg6 (its:QN)(lo hi:Option Int):slicePick its.toArray lo hi none=((its.drop (HT.sIx its.length 0 lo)).take (HT.sIx its.length its.length hi - HT.sIx its.length 0 lo)).toArray:=by obtain⟨h1,h2,h3⟩:=zhQ lo hi its.toArray.size;unfold slicePick;rw[h1,h2,h3];simp only[sliceRange_one,pick_run,List.size_toArray] <;> rfl
def rSlL (K:QA):V->Option Int->Option Int->Hp->VK->Prop:=λx lo hi H Q=>∃a xs,x=.ref a/\SqL K H a xs/\∀p,H p=none->Q (.ref p) (upd H p (.lst (cutV xs lo hi)))
def zdz:SlR X (rSlL X.K):=by intro pins s σ H x v vl vu lo hi sl Q I rx hs pl pu h;obtain⟨a,xs,rfl,hx,q⟩:=h;cases rx;obtain⟨its,r,ht,hz⟩:=I.list hx;have hlen:=r.length;refine⟨"list",_,slot_list_getitem.lookup,ht.isList.typeIs,?_⟩;refine wpAny_getItem_list_slice ht.isList hs pl pu .none (by simp) ?_ (by rw[List.size_toArray] <;> omega);rw[zg6,<-hlen];refine⟨.ref s.heap.objs.size,_,I.laid (t':=s.toks) (o:=.lst (cutV xs lo hi)) (λb ob q=>Heap.get?_push_of_some _ q) (Jb _) ?_,rfl,q _ (I.hok.fresh (Jb _))⟩;exact⟨Jk (ziS xs lo hi) hz,_,0,(r.drop (HT.sIx xs.length 0 lo)).take (HT.sIx xs.length xs.length hi - HT.sIx xs.length 0 lo),Heap.get?_push_size _ rfl⟩
def ziE:V->Bool
 | .non=>true
 | .bl _=>true
 | .int _=>true
 | .str _=>true
 | _=>false
def eqV:V->V->Bool
 | .non,.non=>true
 | .bl a,.bl b=>a==b
 | .bl a,.int b=>(if a then 1 else 0)==b
 | .int a,.bl b=>a==(if b then 1 else 0)
 | .int a,.int b=>a==b
 | .str a,.str b=>a==b
 | _,_=>false
def zq3 {A:Around}{s:Shared}{y x:V}{u v:Value}(ry:RelV y u)(rx:RelV x v)(fy:ziE y=true)(fx:ziE x=true):SeqAt.EqAt A s u v (eqV y x):=by
 cases y with
 | non=>
  cases ry;cases x with
  | non=>cases rx;exact SeqAt.EqAt.same _
  | bl b=>cases rx;exact SeqAt.EqAt.none_bool b
  | int b=>obtain⟨t,rfl⟩:=rx;exact SeqAt.EqAt.none_int b t
  | str b=>obtain⟨t,rfl⟩:=rx;exact SeqAt.EqAt.none_str b t
  | _=>exact Jh (show false=true from fx) Jf
 | bl a=>
  cases ry;cases x with
  | non=>cases rx;exact SeqAt.EqAt.bool_none a
  | bl b=>cases rx;exact SeqAt.EqAt.bool_bool a b
  | int b=>obtain⟨t,rfl⟩:=rx;exact SeqAt.EqAt.bool_int a b t
  | str b=>obtain⟨t,rfl⟩:=rx;exact SeqAt.EqAt.bool_str a b t
  | _=>exact Jh (show false=true from fx) Jf
 | int a=>
  obtain⟨t',rfl⟩:=ry;cases x with
  | non=>cases rx;exact SeqAt.EqAt.int_none a t'
  | bl b=>cases rx;exact SeqAt.EqAt.int_bool a t' b
  | int b=>obtain⟨t,rfl⟩:=rx;exact SeqAt.EqAt.int_int a t' b t
  | str b=>obtain⟨t,rfl⟩:=rx;exact SeqAt.EqAt.int_str a t' b t
  | _=>exact Jh (show false=true from fx) Jf
 | str a=>
  obtain⟨t',rfl⟩:=ry;cases x with
  | non=>cases rx;exact SeqAt.EqAt.str_none a t'
  | bl b=>cases rx;exact SeqAt.EqAt.str_bool a t' b
  | int b=>obtain⟨t,rfl⟩:=rx;exact SeqAt.EqAt.str_int a t' b t
  | str b=>obtain⟨t,rfl⟩:=rx;exact SeqAt.EqAt.str_str a t' b t
  | _=>exact Jh (show false=true from fx) Jf
 | _=>exact Jh (show false=true from fy) Jf
def inV (x:V)(xs:QQ):Bool:=xs.any λy=>eqV y x
def zT:zbg X (.builtin "len") (λxs H Q=>∃p ys,xs=[.ref p]/\(SqL X.K H p ys\/SqT X.K H p ys)/\Q (.int ys.length) H):=by
 intro pins s σ H xs us Q I r h;obtain⟨p,ys,rfl,hq,q⟩:=h;obtain⟨u,rfl,rx⟩:=vals1 r;cases rx;have hn:=zgK;rcases hq with hq | hq
 ·obtain⟨its,r',pl,hz⟩:=I.list hq;have hlen:=r'.length;exact Calls.call_len_list pl.isList (by simp only[List.size_toArray] <;> omega) ⟨.int ys.length,H,I.tok _,⟨s.toks+1,by rw[List.size_toArray,hlen]⟩,q⟩
 ·obtain⟨its,r',pl,hz⟩:=I.tuple hq;have hlen:=r'.length;exact len_tuple pl (by simp only[List.size_toArray] <;> omega) ⟨.int ys.length,H,I.tok _,⟨s.toks+1,by rw[List.size_toArray,hlen]⟩,q⟩
def zb6:zbg X (.builtin "len") (λxs H Q=>∃z,xs=[.str z]/\z.length<=sizeLine/\Q (.int z.length) H):=by intro pins s σ H xs us Q I r h;obtain⟨z,rfl,hz,q⟩:=h;obtain⟨u,rfl,t,rfl⟩:=vals1 r;have hn:=zgK;exact len_str (by omega) ⟨.int z.length,H,I.tok _,⟨_,rfl⟩,q⟩
def zbg.or {f:Value}{r r':List V->Hp->VK->Prop}(h:zbg X f r)(h':zbg X f r'):zbg X f (λxs H Q=>r xs H Q\/r' xs H Q):=by
 intro pins s σ H xs us Q I rs q;rcases q with q | q
 ·exact h pins s σ H xs us Q I rs q
 ·exact h' pins s σ H xs us Q I rs q
def zh3:zbg X (.type "list") (λxs H Q=>∃p ys,xs=[.ref p]/\(SqL X.K H p ys\/SqT X.K H p ys)/\∀l,H l=none->Q (.ref l) (upd H l (.lst ys))):=by
 intro pins s σ H xs us Q I r h;obtain⟨p,ys,rfl,hq,q⟩:=h;obtain⟨u,rfl,rx⟩:=vals1 r;cases rx;have fin:∀(its:QN),Vals ys its->ys.length<=sizeLine->∀(h':Heap) (c':Nat),(∀b o',s.heap.get? b=some o'->h'.get? b=some o')->
   h'.get? s.heap.objs.size=some {cls:=.type "list",dict:=none,data:=.seq its.toArray c',slots:= #[]}->EP X pins σ Q (.ref s.heap.objs.size) {s with heap:=h'}:=λits r' hz h' c' kp e=>
  ⟨.ref s.heap.objs.size,_,I.laid (t':=s.toks) kp (Jb _) (show zac X.prog X.w _ h' _ (.lst ys) from⟨hz,its,c',r',e⟩),rfl,q _ (I.hok.fresh (Jb _))⟩
 rcases hq with hq | hq
 ·obtain⟨its,r',pl,hz⟩:=I.list hq;have hlen:=r'.length;obtain⟨o,ho,hc,n,hd⟩:=pl.isList;exact call_list_seq p (.inl rfl) ho hc hd (λh' c' kp e=>fin its r' hz h' c' kp e) (by simp only[List.size_toArray] <;> omega)
 ·obtain⟨its,r',pl,hz⟩:=I.tuple hq;have hlen:=r'.length;obtain⟨o,ho,hc,n,hd⟩:=pl;exact call_list_seq p (.inr rfl) ho hc hd (λh' c' kp e=>fin its r' hz h' c' kp e) (by simp only[List.size_toArray] <;> omega)
def zg4:zbg X (.type "tuple") (λxs H Q=>∃p ys,xs=[.ref p]/\((SqL X.K H p ys/\∀l,H l=none->Q (.ref l) (upd H l (.tup ys)))\/(SqT X.K H p ys/\Q (.ref p) H))):=by
 intro pins s σ H xs us Q I r h;obtain⟨p,ys,rfl,h⟩:=h;obtain⟨u,rfl,rx⟩:=vals1 r;cases rx;rcases h with ⟨hq,q⟩ | ⟨hq,q⟩
 ·obtain⟨its,r',pl,hz⟩:=I.list hq;have hlen:=r'.length;refine call_tuple_list pl.isList (λh' kp=>?_) (by simp only[List.size_toArray] <;> omega);have I1:Inv X pins σ H {s with heap:=h'}:=I.kept (t':=s.toks) kp;have I2:Inv X pins σ (upd H h'.objs.size (.tup ys)) {s with heap:=h'.push {cls:=.type "tuple",data:=.seq its.toArray}}:=
   I1.laid (t':=s.toks) (λb o e=>Heap.get?_push_of_some _ e) (Jb _) (show zac X.prog X.w _ _ _ (.tup ys) from⟨hz,its,r',IsTup.new _ _⟩)
  exact⟨.ref h'.objs.size,_,I2,rfl,q _ (I1.hok.fresh (Jb _))⟩
 ·obtain⟨its,r',pl,hz⟩:=I.tuple hq;exact call_tuple_same pl ⟨.ref p,H,I,rfl,q⟩
def tyV (K:QA)(T:String)(x:V)(H:Hp):Prop:=match x with
 | .str _=>T= "str"
 | .int _=>T= "int"
 | .ref p=>(T= "list" /\∃xs,SqL K H p xs)\/(T= "tuple" /\∃o,K.lookup p=some o/\o.cls=.type "tuple" /\o.dict=none)\/
   (T= "dict" /\((∃kvs,H p=some (.dK kvs))\/∃kvs,H p=some (.dT kvs)))\/(T= "set" /\∃S n,H p=some (.set S n))
 | _=>False
def zqZ {pins:QE}{σ:St}{H:Hp}{s:Shared}{T:String}{x:V}{v:Value}(I:Inv X pins σ H s)(r:RelV x v)(ty:tyV X.K T x H):
  s.TypeIs v T/\∀a,v=.ref a->∃ob,s.heap.get? a=some ob/\ob.dict=none:=by
 cases x with
 | str z=>obtain⟨t,rfl⟩:=r;cases (show T= "str" from ty);exact⟨typeIs_str s z t,λ_ e=>nomatch e⟩
 | int i=>obtain⟨t,rfl⟩:=r;cases (show T= "int" from ty);exact⟨typeIs_int s i t,λ_ e=>nomatch e⟩
 | ref p=>
  cases r;rcases ty with ⟨rfl,xs,hq⟩ | ⟨rfl,o,hk,hc,hd⟩ | ⟨rfl,hk⟩ | ⟨rfl,S,n,hk⟩
  ·obtain⟨its,_,pl,_⟩:=I.list hq;refine⟨pl.isList.typeIs,λa e=>?_⟩;cases e;obtain⟨o,n,e,c,hd,_⟩:=pl;exact⟨o,e,hd⟩
  ·refine⟨⟨o,I.kIn p o hk,hc⟩,λa e=>?_⟩;cases e;exact⟨o,I.kIn _ o hk,hd⟩
  ·have z:∃o,s.heap.get? p=some o/\o.ExactDict:=by
    rcases hk with ⟨kvs,hk⟩ | ⟨kvs,hk⟩
    ·obtain⟨_,_,_,_,o,_,_,e,ex,_⟩:=I.hok p _ hk;exact⟨o,e,ex⟩
    ·obtain⟨_,_,_,_,o,_,_,e,ex,_⟩:=I.hok p _ hk;exact⟨o,e,ex⟩
   obtain⟨o,e,ex⟩:=z;refine⟨⟨o,e,ex.1⟩,λa e2=>?_⟩;cases e2;exact⟨o,e,ex.2.1⟩
  ·obtain⟨o,_,_,_,e,ex,_⟩:=I.hok p _ hk;refine⟨⟨o,e,ex.1⟩,λa e2=>?_⟩;cases e2;exact⟨o,e,ex.2.1⟩
 | _=>exact False.elim ty
def tBM (K:QA)(T:String)(r:V->List V->Hp->VK->Prop)(to:TE)(t:TA):TE:=fun σ H Q=>to σ H λx H1=>tyV K T x H1/\t σ H1 λxs H2=>r x xs H2 Q
variable {o e:Expr}{es:List Expr}{to:TE}{t:TA}{name:Str}{apos cpos:Pos}{T id:String}{r:V->List V->Hp->VK->Prop}
def zhi (pa:PlainAttrs T)(slot:Slot T name id)(hty:typeOf (.builtin id)=pure (.type "method_descriptor")) (hm:MtR X id r) (ho:PE X o to) (ha:PA X (e::es) t)
  (hbase:attributeBase o name X.env (eval o X.env)=eval o X.env:=by rfl)
  (hfew:((backTo cpos (starEach (e::es) X.env)).all (λx=>!x.1) && (backToKw cpos (keywordEach [] X.env)).all (λx=>x.1.isSome)
   && decide ((e::es).length+([]:List Keyword).length+(if ([]:List Keyword).isEmpty then 0 else 1) < 30))=true:=by rfl)
  (hline:(apos.endLine==cpos.line)=true:=by rfl) (hs:starEach (e::es) X.env=(false,eval e X.env)::starEach es X.env:=by rfl) (hplain:(backTo cpos (starEach es X.env)).any (·.1)=false:=by rfl):
  PE X (.Call (.Attribute o name apos) (e::es) [] cpos) (tBM X.K T r to t):=by
 intro pins s σ H Q I h;refine wpAny_Call_method_late hbase hfew hline rfl (thn (ho pins s σ H _ I h) λv s1 ⟨x,H1,I1,r1,ty,q1⟩=>?_);obtain⟨h1,h2⟩:=zqZ I1 r1 ty;refine⟨T,id,pa,slot,hty,h1,h2,?_⟩;have hA:=ha cpos pins s1 σ H1 _ I1 q1;rw[hs] at hA ⊢;refine Calls.callWith_builtin (by show(false || (backTo cpos (starEach es X.env)).any (·.1))=false;rw[hplain] <;> rfl) (Calls.evalArgs_plain ?_);exact thn hA λus s2 ⟨vs,H2,I2,r2,q2⟩=>hm pins s2 σ H2 x vs v us Q I2 r1 r2 q2
end
def MtM (X:Cx)(id:String)(r:V->List V->Hp->VK->Prop):Prop:=
 ∀(pins:QE) (s:Shared) (σ:St) (H:Hp) (x:V) (xs:QQ) (v:Value) (us:QN) (Q:VK),Inv X pins σ H s->RelV x v->Vals xs us->r x xs H Q->
  wpAny (model X.prog X.w) X.A (call (.builtin id) (v::us)) (EP X pins σ Q) X.xe s
def Vals.one {x:V}{us:QN}(h:Vals [x] us):∃u,us=[u]/\RelV x u:=by
 cases h with
 | cons r t=>cases t;exact⟨_,rfl,r⟩
section
variable {X:Cx}{pins:QE}{σ:St}{H:Hp}{s:Shared}{l b:Addr}{xs ys zs:QQ}
def Inv.lset {its its':QN}{n:Nat}{f:Array Value->Array Value}{t':Nat}(I:Inv X pins σ H s)(hH:H l=some (.lst xs))
  (e:s.heap.get? l=some {cls:=.type "list",data:=.seq its.toArray n}) (hf:f its.toArray=its'.toArray) (hv:Vals ys its') (hz:ys.length<=sizeLine):
  Inv X pins σ (upd H l (.lst ys)) {s with heap:=s.heap.update l (Obj.mapSeq f),toks:=t'}:=by
 have q:=PySem.IsL.update e f;rw[hf] at q;refine I.write (x:=l) (e:=l) (by rw[hH];exact trivial) (.inl rfl) (λb' u hb hu=>(Heap.get?_update_other s.heap (Obj.mapSeq f) (Ne.symm hb)).trans hu) ⟨_,q⟩ ?_;exact⟨hz,its',_,hv,q⟩
def Inv.lnew {its:QN}{t':Nat}(I:Inv X pins σ H s)(hv:Vals ys its)(hz:ys.length<=sizeLine):
  Inv X pins σ (upd H s.heap.objs.size (.lst ys)) {s with heap:=s.heap.push {cls:=.type "list",data:=.seq its.toArray},toks:=t'}:=
 I.laid (λ_ _ q=>Heap.get?_push_of_some _ q) (Jb _) ⟨hz,its,0,hv,Heap.get?_push_size _ rfl⟩
def Inv.fresh (I:Inv X pins σ H s):H s.heap.objs.size=none:=I.hok.fresh (Jb _)
def Inv.lstM (I:Inv X pins σ H s)(hH:H l=some (.lst xs)):xs.length<=sizeLine/\∃(its:QN) (n:Nat),Vals xs its/\xs.length=its.length/\s.heap.get? l=some {cls:=.type "list",data:=.seq its.toArray n}:=by obtain⟨z,its,n,r,e⟩:=I.hok l _ hH;exact⟨z,its,n,r,r.length,e⟩
theorem znc {n:Nat}(h:n<=sizeLine):Builtin.List.listTooLong n=false:=by unfold Builtin.List.listTooLong;exact Je (by omega)
end
section
variable {X:Cx}
def zpd:V->List V->Hp->VK->Prop:=λx vs H Q=>∃l xs y,x=.ref l/\vs=[y]/\H l=some (.lst xs)/\xs.length < sizeLine/\Q .non (upd H l (.lst (xs++ [y])))
def zca:MtM X "list.append" zpd:=by intro pins s σ H x vs v us Q I rx rv h;obtain⟨l,xs,y,rfl,rfl,hH,hz,q⟩:=h;cases rx;obtain⟨u,rfl,ru⟩:=rv.one;obtain⟨z,its,n,r,hl,e⟩:=I.lstM hH;refine call_meets F.slot_list_append ⟨_,e,rfl⟩ F.entry_list_append (F.args_list_append_2 _ _) (PySem.list_append l its.toArray n u (by rw[List.size_toArray];omega)) ⟨e,?_⟩;refine⟨.non,_,I.lset (its':=its++ [u]) hH e (by simp) (r.append (.cons ru .nil)) ?_,rfl,q⟩;rw[List.length_append,List.length_singleton];omega
def zoY:V->List V->Hp->VK->Prop:=λx vs H Q=>∃l b xs zs,x=.ref l/\vs=[.ref b]/\H l=some (.lst xs)/\H b=some (.lst zs)/\xs.length+zs.length<=sizeLine/\Q .non (upd H l (.lst (xs++zs)))
def zl8:MtM X "list.extend" zoY:=by
 intro pins s σ H x vs v us Q I rx rv h;obtain⟨l,b,xs,zs,rfl,rfl,hH,hB,hz,q⟩:=h;cases rx;obtain⟨u,rfl,ru⟩:=rv.one;cases ru;obtain⟨z,its,n,r,hl,e⟩:=I.lstM hH;obtain⟨z2,its2,n2,r2,hl2,e2⟩:=I.lstM hB;have hsz:its.toArray.size+its2.toArray.size<=sizeLine:=by rw[List.size_toArray,List.size_toArray];omega
 have hlong:¬(!its.toArray.isEmpty && Builtin.List.listTooLong (its.toArray.size+its2.toArray.size))=true:=by rw[znc hsz,Bool.and_false];exact Jf
 refine call_meets F.slot_list_extend ⟨_,e,rfl⟩ F.entry_list_extend (F.args_list_extend_2 _ _)
  (AutoSeq1.list_extend_list_list_0 l its.toArray n b its2.toArray n2 hlong (by rw[List.size_toArray];omega) (by omega)) ⟨e,e2,?_⟩
 refine⟨.non,_,I.lset (its':=its++its2) hH e (by simp) (r.append r2) ?_,rfl,q⟩;rw[List.length_append];omega
def rCat:R2:=λx y H Q=>∃l b xs zs,x=.ref l/\y=.ref b/\H l=some (.lst xs)/\H b=some (.lst zs)/\xs.length+zs.length<=sizeLine/\∀p,H p=none->Q (.ref p) (upd H p (.lst (xs++zs)))
def zqi:OpR X (binaryOp .Add) rCat:=by
 intro pins s σ H x y v u Q I rx ry h;obtain⟨l,b,xs,zs,rfl,rfl,hH,hB,hz,q⟩:=h;cases rx;cases ry;obtain⟨z,its,n,r,hl,e⟩:=I.lstM hH;obtain⟨z2,its2,n2,r2,hl2,e2⟩:=I.lstM hB;refine PySem.P.add_list e e2 ?_ (by rw[List.size_toArray,List.size_toArray];omega);have ea:its.toArray++its2.toArray=(its++its2).toArray:=by simp
 rw[ea];exact⟨.ref _,_,I.lnew (t':=s.toks) (r.append r2) (by rw[List.length_append];omega),rfl,q _ I.fresh⟩
end
section
variable {prog:Program}{w:World}{A:Around}{E:QC}{s:Shared}
end
section
variable {X:Cx}
end
end L2
namespace Att
open PySem PySem.W PySem.Calls PyProof.Rows
def zfA {P:Params}{h:Heap}:∀(ns:List Int) (vs:QN),WellAll P h vs (ns.map WData.int)->IntsAre vs ns:=by
 intro ns
 induction ns with
 | nil=>intro vs w;rw[List.map_nil] at w;cases w;exact .nil
 | cons n ns ih=>
  intro vs w;rw[List.map_cons] at w;cases w with
  | cons a b=>cases a;exact .cons _ _ (ih _ b)
def zmh {l:OpenLaw}{n:Nat}(hn:l.most=some n){P:Params}{h:Heap}{args:List WData}{vals:QN}
  (hpre:l.row.toRowW.claim.pre args=true) (hwl:WellAll P h vals args):
  ∃a vs ns,vals=[Value.ref a]/\args=[WData.list (ns.map WData.int)]/\h.get? a=some {cls:=.type "list",data:=.seq vs.toArray}/\IntsAre vs ns/\ns.length<=n:=by
 have hsh:WShape.hasAll [] args [.list .int]=true:=(pre_splitW hpre).1;have hc:l.pre.holds [] {args:=args}=true:=(pre_splitW hpre).2;obtain⟨d,r,rfl,h1,h2⟩:=hasAllW_cons hsh;obtain rfl:=hasAllW_nil h2;obtain⟨xs,rfl,h3⟩:=hasW_list h1;obtain⟨ns,rfl⟩:=items_int h3;have hlen:ns.length<=n:=by
  unfold OpenLaw.pre at hc;have h4:(WTm.not (.lt (.lit (.int (n:Int))) (.len (.arg 0)))).holds [] {args:=[.list (ns.map .int)]}=true:=by have h4:=(holds_andW hc).1;rw[hn] at h4;exact h4
  have h5:=condW_of h4 (w_not (w_lt w_lit (w_len_list (w_arg rfl))));rw[List.length_map] at h5;refine Nat.le_of_not_lt λq=>?_;have q':(n:Int) < ((ns.length:Nat):Int):=by omega
  first
   | (rw[decide_eq_true q'] at h5;exact Jh h5 (by decide))
   | (simp at h5;omega)
 cases hwl with
 | cons w1 w2=>
  cases w2;cases w1 with
  | list ho hall=>exact⟨_,_,ns,rfl,rfl,ho,zfA ns _ hall,hlen⟩
def zlG (l:OpenLaw)(args:List WData):l.row.toRowW.claim.post args (.bool true) args=true:=
 postW_of (r:=l.row.toRowW) (X:=(true==true))
  (show WShape.has [] (.bool true) .bool=true by first | rfl | decide | simp[WShape.has,WShape.arms,WShape.armsAll])
  (show(WTm.eq .res (.lit (.bool true))).value [] {args:=args,res:=some (.bool true),after:=args}=some (.bool (true==true)) from w_eq_bool (w_res rfl) w_lit) rfl
def attach_call {l:OpenLaw}{n:Nat}{q:Program}{loose:QP}{XP:(Str->Option Value)->Heap->Prop}{YP:World->Heap->Prop}{d:DefRec}
  (hn:l.most=some n) (hdf:d.params.defaults=[])
  (call:∀(w:World) (s₀ s₁:Shared) (mg mb:QB) (fa:Addr) (o:Obj) (pm cd doc:Value) (a:Addr) (vs:QN) (ns:List Int),
   Ground q loose [] XP w s₀ mg mb s₁.heap->YP w s₁.heap->
   s₁.heap.get? fa=some o->o.data=.func (docDef d.name d.params d.body d.scope pm cd doc)->s₁.heap.CodeRec cd d.name->mg d.name=some (.ref fa)->
   s₁.heap.get? a=some {cls:=.type "list",data:=.seq vs.toArray}->IntsAre vs ns->ns.length<=n->s₁.gens= #[]->
   codeAny (model l.prog w) callerA (.call (.ref fa) ⟨[.ref a],[]⟩) (λr s'=>r=.ok (.ret (.bool true))/\OldK s₁.heap s'.heap/\s'.os=s₁.os/\AllBare s'.gens) s₁):
  WalkO q loose XP YP l.row.toRowW d [] (λf vs=>PySem.call f vs):=by
 intro w s₀ s₁ mg mb G Y fa o pm cd doc dV kV ho hd hcd hD hmg hg args vals as hpre hlay hrd hwl hlo;obtain rfl:dV=.none:=Dflts.none hD hdf;obtain rfl:kV=.none:=Dflts.noKw hD;obtain⟨a,vs,ns,rfl,rfl,hobj,hints,hlen⟩:=zmh hn hpre hwl;refine enter_call (codeAny_mono (call w s₀ s₁ mg mb fa o pm cd doc a vs ns G Y ho (fd_plain hd) hcd hmg hobj hints hlen hg) λr s' hq=>?_);obtain⟨rfl,h2,h3,h4⟩:=hq;exact⟨.inl ⟨.bool true,.bool true,[],rfl,λ_=>rfl,.bool true,zlG l _,λ_=>⟨List.Pairwise.nil,λ_ hm=>(nomatch hm)⟩⟩,h2,h3,h4⟩
section
variable {prog:Program}{w:World}{A:Around}{E:QC}{s:Shared}{K:Frag}
end
end Att
namespace L2
open PySem PySem.Spec PyProof.Rows
theorem zeT:∀{vs:QN} {ns:List Int},IntsAre vs ns->Vals (ns.map V.int) vs
 | _,_,.nil=>.nil
 | _,_,.cons n t h=>.cons ⟨t,rfl⟩ (zeT h)
def Only (H:Hp):Prop:=∀b,H b=none\/∃o xs,H b=some (.frz o (.lst xs))
def zmH {P:Program}{w:World}{K:QA}{mg mb:QB}{CX:CXT}{k:Nat}{fa a:Addr}{fd:FuncData}{x:Str}{sp:Sp}{s₁:Shared}{vs:QN}{ns:List Int}
  (KX:K.In s₁.heap) (hns:s₁.heap.Ns mainGlobals mg) (hb:s₁.heap.Ns builtinsNs mb) (hbb:∀x:Str,x≠ "__name__" ->mb x=bootBuiltins x) (hlim:s₁.heap.NoLimit) (hg:s₁.gens= #[])
  (ha:s₁.heap.get? a=some {cls:=.type "list",data:=.seq vs.toArray}) (hi:IntsAre vs ns) (hl:ns.length<=sizeLine) (hr:Room k callerA)
  (F:∀base:Heap,K.In base->base.Ns mainGlobals mg->FnOk P w K mg base CX k fa fd [x] sp) (hbind:∀(s:Shared) (u:Value),BindsTo s fd ⟨[u],[]⟩ [(x,u)])
  (hsp:∀H:Hp,Only H->SqL K H a (ns.map V.int)->sp [.ref a] H (λv _=>v=.bl true) λ_ _ _=>False)
  (hCX:∀H e s',CX [] H s₁ (λ_ _ _=>False) e s'->False):
  codeAny (model P w) callerA (.call (.ref fa) ⟨[.ref a],[]⟩) (λr s'=>r=.ok (.ret (.bool true))/\OldK s₁.heap s'.heap/\s'.os=s₁.os/\AllBare s'.gens) s₁:=by
 have rv:=zeT hi;have lenV:=hi.length
 have core:∀H:Hp,Only H->SqL K H a (ns.map V.int)->HOk P w H s₁.heap->(∀b,H b≠none->b=a)->(H a≠none->K.lookup a=none)->
   codeAny (model P w) callerA (.call (.ref fa) ⟨[.ref a],[]⟩) (λr s'=>r=.ok (.ret (.bool true))/\OldK s₁.heap s'.heap/\s'.os=s₁.os/\AllBare s'.gens) s₁:=by
  intro H hO hS hok hA hK;have base_of:∀{b:Addr} {o:Obj},s₁.heap.get? b=some o->H b=none->(hidT s₁.heap H).get? b=some o:=λe n=>zm4 e n;have noA:∀{b:Addr} {o:Obj} {es:Array DictEntry} {ep:Nat},s₁.heap.get? b=some o->o.data=.dict es ep->H b=none:=λ{b o es ep} e d=>by
   cases q:H b with
   | none=>rfl
   | some u=>have e':b=a:=hA b (by rw[q];simp);subst e';rw[ha] at e;cases e;have d':Data.seq vs.toArray _=Data.dict es ep:=d;cases d'
  have nsK:∀{b:Addr} {m:QB},s₁.heap.Ns b m->(hidT s₁.heap H).Ns b m:=λ{b m} ⟨o,es,ep,e,d,r⟩=>⟨o,es,ep,base_of e (noA e d),d,r⟩;have hKb:K.In (hidT s₁.heap H):=λb o e=>base_of (KX b o e) (by
   cases q:H b with
   | none=>rfl
   | some u=>have e':b=a:=hA b (by rw[q];simp);subst e';rw[hK (by rw[q];simp)] at e;cases e)
  have hM:Mod K mg (hidT s₁.heap H):=⟨hKb,nsK hns,⟨mb,nsK hb,hbb⟩,let ⟨mc,h1,h2⟩:=hlim;⟨mc,nsK h1,h2⟩⟩
  have e0:Env0 P w K mg (hidT s₁.heap H) callerA [] s₁ H:=⟨rfl,hM,λb o e=>zoN e,Nat.le_of_eq (zmc _ _),trivial,λb hb=>Jh (show b∈([]:QO) from hb) (by simp),hok,.of_eq hg⟩;refine codeAny_mono ((F _ hKb (nsK hns)).run callerA [] s₁ H ⟨[.ref a],[]⟩ [.ref a] [.ref a] _ _ hr e0 (hbind s₁ (.ref a)) (.cons rfl .nil) (hsp H hO hS)) λr s' h=>?_;cases r with
  | error e=>exact(hCX H e s' h).elim
  | ok fl=>
   cases fl with
   | next=>exact False.elim h
   | brk=>exact False.elim h
   | cont=>exact False.elim h
   | ret u=>
    obtain⟨v,H',os,bare,un,hok',r',q⟩:=h;have q':v=.bl true:=q;subst q';obtain rfl:u=Value.bool true:=r';refine⟨rfl,OldK.of_keep λb o e=>?_,os,bare⟩;cases q:H b with
    | none=>exact un.keep b o e q (by intro z;exact Jh (show b∈([]:QO) from z) (by simp)) (by simp)
    | some u=>
     rcases hO b with z | ⟨ob,xs,z⟩
     ·rw[q] at z;cases z
     ·have z2:=un.frzs b ob _ z;obtain⟨e1,_⟩:=hok b _ z;obtain⟨e2,_⟩:=hok' b _ z2;rw[e] at e1;cases e1;exact e2
 cases hk:K.lookup a with
 | some o=>
  have e:=KX a o hk;rw[ha] at e;cases e;refine core (λ_=>none) (λ_=>.inl rfl) (.inr ⟨_,vs.toArray,_,hk,rfl,rfl,rfl,by rw[List.size_toArray,lenV];exact hl,by simpa using rv⟩) (λb u z=>by have z':(none:Option HO)=some u:=z;cases z') (λb z=>Jh rfl z) λz=>Jh rfl z
 | none=>
  refine core (λb=>if b=a then some (.frz {cls:=.type "list",data:=.seq vs.toArray} (.lst (ns.map V.int))) else none) (λb=>?_) (.inl (.inr ⟨{cls:=.type "list",data:=.seq vs.toArray},if_pos rfl⟩)) (λb u z=>?_) (λb z=>?_) λ_=>hk
  ·by_cases hb:b=a
   ·exact .inr ⟨_,_,if_pos hb⟩
   ·exact .inl (if_neg hb)
  ·by_cases hb:b=a
   ·have z':=(if_pos hb).symm.trans z;cases z';subst hb;exact⟨ha,by rw[List.length_map];exact hl,vs,_,rv,ha⟩
   ·have z':=(if_neg hb).symm.trans z;cases z'
  ·by_cases hb:b=a
   ·exact hb
   ·exact Jh (if_neg hb) z
abbrev KOf {K:QA}{h:Heap}(_:K.In h):QA:=K
def zo8 {l:PySem.W.OpenLaw}{n k:Nat}{q:Program}{loose:QP}{XP:(Str->Option Value)->Heap->Prop}{YP:World->Heap->Prop}{d:DefRec}{K:Params->QA}{CX:World->CXT}{sp:World->Sp}{x:Str}
  (hn:l.most=some n) (hn2:n<=sizeLine) (hdf:d.params.defaults=[]) (hr:Room k callerA)
  (hY:∀(w:World) (h:Heap),YP w h->(K w.params).In h)
  (F:∀(w:World) (mg:QB) (fa:Addr) (h:Heap),(K w.params).In h->h.Ns mainGlobals mg->mg d.name=some (.ref fa)->
   ∃fd:FuncData,(∀(s:Shared) (u:Value),BindsTo s fd ⟨[u],[]⟩ [(x,u)])/\
    ∀base:Heap,(K w.params).In base->base.Ns mainGlobals mg->FnOk l.prog w (K w.params) mg base (CX w) k fa fd [x] (sp w))
  (hsp:∀(w:World) (H:Hp) (a:Addr) (ns:List Int),ns.length<=n->Only H->SqL (K w.params) H a (ns.map V.int)->sp w [.ref a] H (λv _=>v=.bl true) λ_ _ _=>False)
  (hCX:∀(w:World) (H:Hp) (s:Shared) (e:Value) (s':Shared),CX w [] H s (λ_ _ _=>False) e s'->False):
  PySem.W.WalkO q loose XP YP l.row.toRowW d [] (λf vs=>PySem.call f vs):=by
 refine Att.attach_call hn hdf λw s₀ s₁ mg mb fa o pm cd doc a vs ns G Y ho hd hcd hmg hobj hints hlen hg=>?_;have KX:=hY w _ Y;obtain⟨fd,hb,hF⟩:=F w mg fa _ KX G.T.g hmg;exact zmH KX G.T.g G.T.b G.T.builtins G.T.nolimit hg hobj hints (Jk hlen hn2) hr hF hb (λH hO hS=>hsp w H a ns hlen hO hS) λH e s'=>hCX w H s₁ e s'
abbrev CX0:CXT:=λ_ _ _ _ _ _=>False
abbrev E0:XK:=λ_ _ _=>False
def zdS {X:Cx}:zbn CX0 X E0:=λ_ _ _ _ _ _ _ h=>h.elim
structure Fun (K:QA)(x qual:Str)(st:Stmt)(f:Addr)(fd:FuncData):Prop where
 ex:∃(oc:Value) (od:QM) (kV doc pm:Value) (an:QM) (cdv ct:Value) (osl:QJ),
  fd=PySem.W.fnOf x qual (zP st) (zD st) (ze st) .none kV doc pm an cdv ct/\K.lookup f=some ⟨oc,od,.func fd,osl⟩/\PySem.W.codeIn K cdv qual=true
 kp:PySem.W.keepIn K (.ref f)=true
section
variable {P:Program}{w:World}{K:QA}{mg:QB}{base:Heap}
theorem Fun.ok {x qual:Str}{st:Stmt}{f:Addr}{fd:FuncData}{N ps:QP}{k:Nat}{sp:Sp}(F:Fun K x qual st f fd)(S:zr N ps (ze st))(len:∀vs H Q E,sp vs H Q E->vs.length=ps.length)
  (hbody:∀(cdv:Value) (A:Around) (outer:List Env) (s:Shared) (H:Hp) (vs:QQ) (Q:VK) (E:XK),Room k (A.deeper (envOfC qual (ze st) s.heap.objs.size f cdv))->sp vs H Q E->
   ∃t,PSs (cxOf CX0 P w K mg base N qual (ze st) f cdv A outer s H E).nox (zD st) t/\t {nx:=λ_ H'=>Q .non H',rt:=Q} (start N vs) H):FnOk P w K mg base CX0 (k+1) f fd ps sp:=by
 obtain⟨oc,od,kV,doc,pm,an,cdv,ct,osl,rfl,lk,hcd⟩:=F.ex;refine zpR lk hcd S len λA outer s H vs Q E hr hsp=>?_;obtain⟨t,h,q⟩:=hbody cdv A outer s H vs Q E hr hsp;exact⟨t,h.nox,q⟩
def Fun.binds {x qual:Str}{st:Stmt}{f:Addr}{fd:FuncData}{ps:QP}(F:Fun K x qual st f fd)
  (h:∀(kV doc pm:Value) (an:QM) (cdv ct:Value) (us:QN),us.length=ps.length->bindArgs (PySem.W.fnOf x qual (zP st) (zD st) (ze st) .none kV doc pm an cdv ct) ⟨us,[]⟩=pure (ps.zip us)):Binds K fd ps []:=by
 obtain⟨oc,od,kV,doc,pm,an,cdv,ct,osl,rfl,lk,hcd⟩:=F.ex;exact .all (h kV doc pm an cdv ct)
def zcc {x qual:Str}{st:Stmt}{f:Addr}{oc:Value}{od an:QM}{osl:QJ}{kV doc pm cdv ct:Value}(l:K.lookup f=some ⟨oc,od,.func (PySem.W.fnOf x qual (zP st) (zD st) (ze st) .none kV doc pm an cdv ct),osl⟩)
  (c:PySem.W.codeIn K cdv qual=true) (k:PySem.W.keepIn K (.ref f)=true):Fun K x qual st f (PySem.W.fnOf x qual (zP st) (zD st) (ze st) .none kV doc pm an cdv ct):=⟨⟨oc,od,kV,doc,pm,an,cdv,ct,osl,rfl,l,c⟩,k⟩
end
theorem zbv {A:Around}{k:Nat}(hr:Room k A):A.units+1 < cLine:=Nat.lt_of_le_of_lt (Nat.add_le_add_left (by decide:1<=64) _) hr.units
def zlT {n:Nat}(h:n<=1000):n < sizeLine:=Nat.lt_of_le_of_lt h (by decide)
section
variable {X:Cx}
theorem pv (i:Nat){x:Str}{pos:Pos}(hN:X.N[i]? =some x:=by rfl)(hv:Vis X.env.scope x:=by first | exact Or.inl rfl | exact Or.inr (Or.inl rfl) | exact Or.inr (Or.inr rfl))(hd:(x==("__debug__" :Str))=false:=by decide)
  (hcd:(x==("__classdict__" :Str))=false:=by decide):PE X (.Name x pos) (tVar i):=zq2 hN hv hd hcd
end
def Same (H H':Hp):Prop:=∀b o,H b=some o->H' b=some o
def Same.refl (H:Hp):Same H H:=λ_ _ h=>h
theorem Same.trans {H H1 H2:Hp}(a:Same H H1)(b:Same H1 H2):Same H H2:=λc o h=>b c o (a c o h)
theorem Same.free {H H':Hp}(e:Same H H'){l:Addr}(h:H' l=Option.none):H l=Option.none:=by
 cases q:H l with
 | none=>rfl
 | some o=>rw[e l o q] at h;cases h
section
variable {κ:Type} [DecidableEq κ]
def valV (kvs:List (κ ×V))(k:κ):Option V:=(kvs.find? λkv=>decide (kv.1=k)).map (·.2)
def putK (kvs:List (κ ×V))(k:κ)(v:V):List (κ ×V):=
 if (kvs.any λkv=>decide (kv.1=k))=true then kvs.map (λkv=>if kv.1=k then(kv.1,v) else kv) else kvs++ [(k,v)]
def zhv (kvs:List (κ ×V))(k:κ):List (κ ×V):=kvs.filter λkv=>decide (kv.1≠k)
theorem zaG {p:κ ×V}{r:List (κ ×V)}{k:κ}(e:p.1=k):valV (p::r) k=some p.2:=by simp[valV,List.find?_cons,e]
theorem zaR {p:κ ×V}{r:List (κ ×V)}{k:κ}(e:¬p.1=k):valV (p::r) k=valV r k:=by simp[valV,List.find?_cons,e]
theorem zdi (k:κ):∀kvs:List (κ ×V),(kvs.any λkv=>decide (kv.1=k))=(valV kvs k).isSome
 | []=>rfl
 | p::r=>by
  rw[List.any_cons];by_cases e:p.1=k
  ·simp only[zaG e,decide_eq_true e,Bool.true_or,Option.isSome_some]
  ·rw[zaR e,Je e,Bool.false_or];exact zdi k r
theorem ziH (k j:κ)(y:V):∀kvs:List (κ ×V),valV (kvs.map λkv=>if kv.1=k then(kv.1,y) else kv) j=(valV kvs j).map λx=>if j=k then y else x
 | []=>rfl
 | p::r=>by
  have ih:=ziH k j y r;rw[List.map_cons];by_cases h:p.1=k
  ·rw[if_pos h];by_cases e:p.1=j
   ·rw[zaG (p:=(p.1,y)) e,zaG e,Option.map_some,if_pos (e.symm.trans h)]
   ·rw[zaR (p:=(p.1,y)) e,zaR e,ih]
  ·rw[if_neg h];by_cases e:p.1=j
   ·rw[zaG (p:=p) e,zaG e,Option.map_some,if_neg (λz=>h (e.trans z))]
   ·rw[zaR (p:=p) e,zaR e,ih]
theorem zhA (k j:κ)(y:V):∀kvs:List (κ ×V),valV kvs k=none->valV (kvs++ [(k,y)]) j=if j=k then some y else valV kvs j
 | [],_=>by
  by_cases e:k=j
  ·rw[if_pos e.symm];exact zaG (p:=(k,y)) e
  ·rw[if_neg (λz=>e z.symm)];exact zaR (p:=(k,y)) e
 | p::r,hn=>by
  rw[List.cons_append];have hk:¬p.1=k:=λz=>by rw[zaG z] at hn;cases hn
  rw[zaR hk] at hn;have ih:=zhA k j y r hn;by_cases e:p.1=j
  ·rw[zaG e,zaG e,if_neg (λz=>hk (e.trans z))]
  ·rw[zaR e,zaR e,ih]
theorem zoc (kvs:List (κ ×V))(k j:κ)(y:V):valV (putK kvs k y) j=if j=k then some y else valV kvs j:=by
 unfold putK;by_cases a:(kvs.any λkv=>decide (kv.1=k))=true
 ·rw[if_pos a,ziH];rw[zdi] at a;by_cases e:j=k
  ·obtain⟨x,hx⟩:=Option.isSome_iff_exists.mp a;rw[if_pos e,e,hx,Option.map_some,if_pos rfl]
  ·rw[if_neg e];cases valV kvs j with
   | none=>rfl
   | some x=>rw[Option.map_some,if_neg e]
 ·rw[if_neg a];refine zhA k j y kvs ?_;rw[zdi] at a;cases q:valV kvs k with
  | none=>rfl
  | some x=>rw[q] at a;exact(a rfl).elim
def zdh (kvs:List (κ ×V))(k:κ)(v:V):(putK kvs k v).length<=kvs.length+1:=by
 unfold putK;split
 ·rw[List.length_map];omega
 ·rw[List.length_append,List.length_cons,List.length_nil];omega
theorem znE {kvs:List (κ ×V)}{k:κ}(v:V)(h:valV kvs k=none):putK kvs k v=kvs++ [(k,v)]:=by unfold putK;rw[zdi,h];exact if_neg (by decide)
theorem RelO.isSome_eq {o:Option V}{u:Option Value}(r:RelO o u):o.isSome=u.isSome:=by
 cases o with
 | none=>cases u with
  | none=>rfl
  | some _=>exact(show False from r).elim
 | some _=>cases u with
  | none=>exact(show False from r).elim
  | some _=>rfl
theorem KV.val {kvs:List (κ ×V)}{vs:List (κ ×Value)}(r:KV kvs vs)(k:κ):RelO (valV kvs k) (valueAt vs k):=by
 unfold KV at r
 induction r with
 | nil=>exact True.intro
 | @cons p q ps qs h t ih=>
  obtain⟨h1,h2⟩:=h;by_cases e:p.1=k
  ·have e':q.1=k:=h1.symm.trans e;have b:valueAt (q::qs) k=some q.2:=by simp[valueAt,List.find?_cons,e']
   rw[zaG e,b];exact h2
  ·have e':¬q.1=k:=λz=>e (h1.trans z);have b:valueAt (q::qs) k=valueAt qs k:=by simp[valueAt,List.find?_cons,e']
   rw[zaR e,b];exact ih
theorem KV.any {kvs:List (κ ×V)}{vs:List (κ ×Value)}(r:KV kvs vs)(k:κ):(kvs.any λkv=>decide (kv.1=k))=vs.any λkv=>decide (kv.1=k):=by
 unfold KV at r
 induction r with
 | nil=>rfl
 | cons h t ih=>rw[List.any_cons,List.any_cons,ih,h.1]
def KV.repl {kvs:List (κ ×V)}{vs:List (κ ×Value)}(r:KV kvs vs)(k:κ){y:V}{u:Value}(ry:RelV y u):
  KV (kvs.map λkv=>if kv.1=k then(kv.1,y) else kv) (vs.map λkv=>if kv.1=k then(kv.1,u) else kv):=by
 unfold KV at r ⊢
 induction r with
 | nil=>exact .nil
 | @cons p q ps qs h t ih=>
  rw[List.map_cons,List.map_cons];refine .cons ?_ ih;obtain⟨h1,h2⟩:=h;by_cases e:p.1=k
  ·rw[if_pos e,if_pos (h1.symm.trans e)];exact⟨h1,ry⟩
  ·rw[if_neg e,if_neg (λz=>e (h1.trans z))];exact⟨h1,h2⟩
def KV.put {kvs:List (κ ×V)}{vs:List (κ ×Value)}(r:KV kvs vs)(k:κ){y:V}{u:Value}(ry:RelV y u):KV (putK kvs k y) (stored vs k u):=by
 unfold putK stored;rw[r.any k];by_cases e:(vs.any λkv=>decide (kv.1=k))=true
 ·rw[if_pos e,if_pos e];exact r.repl k ry
 ·rw[if_neg e,if_neg e];exact Paired.snoc r ⟨rfl,ry⟩
def KV.drop {kvs:List (κ ×V)}{vs:List (κ ×Value)}(r:KV kvs vs)(k:κ):KV (zhv kvs k) (without vs k):=by
 unfold KV at r ⊢;unfold zhv without
 induction r with
 | nil=>exact .nil
 | @cons p q ps qs h t ih=>
  obtain⟨h1,h2⟩:=h;rw[List.filter_cons,List.filter_cons];by_cases e:p.1=k
  ·have a:¬decide (p.1≠k)=true:=by simp[e]
   have b:¬decide (q.1≠k)=true:=by simp[h1.symm.trans e]
   rw[if_neg a,if_neg b];exact ih
  ·have e':¬q.1=k:=λz=>e (h1.trans z);have a:decide (p.1≠k)=true:=by simp[e]
   have b:decide (q.1≠k)=true:=by simp[e']
   rw[if_pos a,if_pos b];exact .cons ⟨h1,h2⟩ ih
theorem KV.length {kvs:List (κ ×V)}{vs:List (κ ×Value)}(r:KV kvs vs):kvs.length=vs.length:=Paired.length r
def zgr (kvs:List (κ ×V))(k:κ):(zhv kvs k).length<=kvs.length:=List.length_filter_le _ _
end
def zft {P:Program}{w:World}{k:Key}{u:Value}(r:RelV (kV k) u):(zal P w).is k u=true:=by
 cases k with
 | inl i=>obtain⟨t,e⟩:=(show∃t,u=Value.int i t from r);subst e;exact ziW P w i t
 | inr x=>obtain⟨t,e⟩:=(show∃t,u=Value.str x t from r);subst e;exact ziN P w x t
theorem zhg {P:Program}{w:World}:∀{ks:List Key} {us:QN},Vals (ks.map kV) us->ItemsAre (zal P w) ks us
 | [],_,r=>by rw[List.map_nil] at r;cases r;exact .nil
 | k::ks,_,r=>by
  rw[List.map_cons] at r;cases r with
  | cons h t=>exact .cons (zft h) (zhg t)
abbrev KT (H:Hp):List (List Key ×V)->List (List Key ×Addr ×Value)->Prop:=Paired λp q=>p.1=q.1/\H q.2.1=some (.tup (p.1.map kV))/\RelV p.2 q.2.2
theorem KT.val {H:Hp}{kvs:List (List Key ×V)}{xs:List (List Key ×Addr ×Value)}(r:KT H kvs xs)(k:List Key):RelO (valV kvs k) ((atKey xs k).map (·.2)):=by
 induction r with
 | nil=>exact True.intro
 | @cons p q ps qs h t ih=>
  obtain⟨h1,_,h2⟩:=h;by_cases e:p.1=k
  ·have e':q.1=k:=h1.symm.trans e;have b:atKey (q::qs) k=some q.2:=by simp[atKey,List.find?_cons,e']
   rw[zaG e,b];exact h2
  ·have e':¬q.1=k:=λz=>e (h1.trans z);have b:atKey (q::qs) k=atKey qs k:=by simp[atKey,List.find?_cons,e']
   rw[zaR e,b];exact ih
def KT.repl {H:Hp}{kvs:List (List Key ×V)}{xs:List (List Key ×Addr ×Value)}(r:KT H kvs xs)(k:List Key){y:V}{u:Value}(ry:RelV y u):
  KT H (kvs.map λkv=>if kv.1=k then(kv.1,y) else kv) (xs.map (putAt k u)):=by
 induction r with
 | nil=>exact .nil
 | @cons p q ps qs h t ih=>
  rw[List.map_cons,List.map_cons];refine .cons ?_ ih;obtain⟨h1,h2,h3⟩:=h;unfold putAt;by_cases e:p.1=k
  ·rw[if_pos e,if_pos (h1.symm.trans e)];exact⟨h1,h2,ry⟩
  ·rw[if_neg e,if_neg (λz=>e (h1.trans z))];exact⟨h1,h2,h3⟩
def KT.put {H:Hp}{kvs:List (List Key ×V)}{xs:List (List Key ×Addr ×Value)}(r:KT H kvs xs)(k:List Key){b:Addr}{y:V}{u:Value}(hb:H b=some (.tup (k.map kV)))(ry:RelV y u):
  KT H (putK kvs k y) (storedH xs k b u):=by
 have e:(kvs.any λkv=>decide (kv.1=k))=(atKey xs k).isSome:=by rw[zdi,(r.val k).isSome_eq,Option.isSome_map]
 unfold putK storedH;rw[e];by_cases q:(atKey xs k).isSome=true
 ·rw[if_pos q,if_pos q];exact r.repl k ry
 ·rw[if_neg q,if_neg q];exact Paired.snoc r ⟨rfl,hb,ry⟩
def KT.keeps {H H':Hp}{kvs:List (List Key ×V)}{xs:List (List Key ×Addr ×Value)}(r:KT H kvs xs)(ht:∀b ys,H b=some (.tup ys)->H' b=some (.tup ys)):KT H' kvs xs:=
 Paired.mapP r λ_ _ z=>⟨z.1,ht _ _ z.2.1,z.2.2⟩
section
variable {P:Program}{w:World}{H:Hp}{h:Heap}{a:Addr}
def zp2 {u:HO}(ok:HOk P w H h)(e:Rd H a u):zac P w H h a u:=e.ok ok
def zht {kvs:QG}(ok:HOk P w H h)(e:Rd H a (.dK kvs)):kvs.length<=sizeLine/\(a==sysModules)=false/\∃vs,KV kvs vs/\h.DictOf (zal P w) a vs:=
 show zac P w H h a (.dK kvs) from zp2 ok e
def zkG {kvs:QG}(ok:HOk P w H h)(e:H a=some (.dK kvs)):kvs.length<=sizeLine/\(a==sysModules)=false/\∃vs,KV kvs vs/\h.DictOf (zal P w) a vs:=zht ok (.inl e)
def zgl {ks:List Key}(ok:HOk P w H h)(e:H a=some (.tup (ks.map kV))):(tupleKind (zal P w)).is h ks a:=by obtain⟨_,its,r,o,h1,h2,n,h3⟩:=(show zac P w H h a (.tup (ks.map kV)) from ok a _ e);exact⟨o,its.toArray,n,h1,h2,h3,by simpa using zhg r⟩
def zhx {kvs:List (List Key ×V)}(ok:HOk P w H h)(e:Rd H a (.dT kvs)):kvs.length<=sizeLine/\(a==sysModules)=false/\
  ∃xs,KT H kvs xs/\h.DictOfH (tupleKind (zal P w)) a xs:=by
 obtain⟨z,y,xs,r,o,es,ep,h1,h2,h3,h4,h5⟩:=(show zac P w H h a (.dT kvs) from zp2 ok e);refine⟨z,y,xs,r,o,es,ep,h1,h2,h3,h4,λx hx=>?_,h5⟩;have all:∀{l:List (List Key ×V)} {m:List (List Key ×Addr ×Value)},KT H l m->∀x∈m,(tupleKind (zal P w)).is h x.1 x.2.1:=by
  intro l m q
  induction q with
  | nil=>intro x hx;exact nomatch hx
  | @cons p q ps qs hq t ih=>
   intro x hx;rcases List.mem_cons.mp hx with e | hx
   ·subst e;exact zgl ok (by rw[<-hq.1];exact hq.2.1)
   ·exact ih x hx
 exact all r x hx
def zrI {kvs:List (List Key ×V)}(ok:HOk P w H h)(e:H a=some (.dT kvs)):kvs.length<=sizeLine/\(a==sysModules)=false/\
  ∃xs,KT H kvs xs/\h.DictOfH (tupleKind (zal P w)) a xs:=zhx ok (.inl e)
end
def DGet (H:Hp)(a:Addr)(y:V)(r:Option V):Prop:=
 (∃kvs k,Rd H a (.dK kvs)/\y=kV k/\r=valV kvs k)\/∃kvs k b,Rd H a (.dT kvs)/\y=.ref b/\H b=some (.tup (k.map kV))/\r=valV kvs k
def DPut (H:Hp)(a:Addr)(y v:V)(H':Hp):Prop:=
 (∃kvs k,H a=some (.dK kvs)/\y=kV k/\kvs.length < sizeLine/\H'=upd H a (.dK (putK kvs k v)))\/
 ∃kvs k b,H a=some (.dT kvs)/\y=.ref b/\H b=some (.tup (k.map kV))/\kvs.length < sizeLine/\H'=upd H a (.dT (putK kvs k v))
theorem DGet.k {H:Hp}{a:Addr}{kvs:QG}{k:Key}(e:H a=some (.dK kvs)):DGet H a (kV k) (valV kvs k):=.inl ⟨kvs,k,.inl e,rfl,rfl⟩
theorem DPut.k {H:Hp}{a:Addr}{kvs:QG}{k:Key}{v:V}(e:H a=some (.dK kvs))(hl:kvs.length < sizeLine):DPut H a (kV k) v (upd H a (.dK (putK kvs k v))):=.inl ⟨kvs,k,e,rfl,hl,rfl⟩
section
variable {X:Cx}{pins:QE}{σ:St}{H:Hp}{s:Shared}{a:Addr}{y v:V}{u r:Value}{o:Option V}{A:Around}{E:QC}
def Inv.big (I:Inv X pins σ H s):sysModules < s.heap.objs.size:=by have h:mainGlobals < s.heap.objs.size:=(I.mod.glob.keeps I.bk).lt;exact Nat.lt_trans (by decide) h
def zlY {Q:QC}(hu:A.units+1 < cLine)(I:Inv X pins σ H s)(g:DGet H a y (some v))(ry:RelV y u)(h:∀w' s',Inv X pins σ H s'->RelV v w'->Q w' s'):
  wpAny (model X.prog X.w) A (getItem (.ref a) u) Q E s:=by
 rcases g with ⟨kvs,k,e,ey,l⟩ | ⟨kvs,k,b,e,ey,eb,l⟩
 ·subst ey;obtain⟨z,hd,vs,rel,dd⟩:=zht I.hok e;obtain⟨w',hw,rw'⟩:=RelO.some_of (v:=v) (o:=valueAt vs k) (by rw[l];exact rel.val k);exact wpAny_getItem_of (zft ry) dd.mapOf hw (h w' _ (I.tok _) rw')
 ·subst ey;cases (show u=Value.ref b from ry);obtain⟨z,hd,xs,rel,dd⟩:=zhx I.hok e;obtain⟨w',hw,rw'⟩:=RelO.some_of (v:=v) (o:=(atKey xs k).map (·.2)) (by rw[l];exact rel.val k);obtain⟨p,hp,hp2⟩:=Option.map_eq_some_iff.mp hw;refine wpAny_getItem_heap (tupleKind_room_in1 hu) (zgl I.hok eb) dd hp ?_;rw[hp2];exact h w' _ (I.tok _) rw'
def d_in {Q:QC}(hu:A.units+1 < cLine)(I:Inv X pins σ H s)(g:DGet H a y o)(ry:RelV y u)(h:∀s',Inv X pins σ H s'->Q (.bool o.isSome) s'):
  wpAny (model X.prog X.w) A (compareOp .In u (.ref a)) Q E s:=by
 rcases g with ⟨kvs,k,e,ey,l⟩ | ⟨kvs,k,b,e,ey,eb,l⟩
 ·subst ey;obtain⟨z,hd,vs,rel,dd⟩:=zht I.hok e;refine wpAny_in_of (zft ry) hd dd.mapOf ?_;rw[<-(rel.val k).isSome_eq,<-l];exact h _ (I.tok _)
 ·subst ey;cases (show u=Value.ref b from ry);obtain⟨z,hd,xs,rel,dd⟩:=zhx I.hok e;refine wpAny_in_heap (tupleKind_room_in1 hu) (zgl I.hok eb) hd dd ?_;have q:=(rel.val k).isSome_eq;rw[Option.isSome_map] at q;rw[<-q,<-l];exact h _ (I.tok _)
def zpj {Q:QC}(hu:A.units+1 < cLine)(I:Inv X pins σ H s)(g:DGet H a y o)(ry:RelV y u)(h:∀s',Inv X pins σ H s'->Q (.bool (!o.isSome)) s'):
  wpAny (model X.prog X.w) A (compareOp .NotIn u (.ref a)) Q E s:=by
 rcases g with ⟨kvs,k,e,ey,l⟩ | ⟨kvs,k,b,e,ey,eb,l⟩
 ·subst ey;obtain⟨z,hd,vs,rel,dd⟩:=zht I.hok e;refine wpAny_notIn_of (zft ry) hd dd.mapOf ?_;rw[<-(rel.val k).isSome_eq,<-l];exact h _ (I.tok _)
 ·subst ey;cases (show u=Value.ref b from ry);obtain⟨z,hd,xs,rel,dd⟩:=zhx I.hok e;refine wpAny_notIn_heap (tupleKind_room_in1 hu) (zgl I.hok eb) hd dd ?_;have q:=(rel.val k).isSome_eq;rw[Option.isSome_map] at q;rw[<-q,<-l];exact h _ (I.tok _)
def zfI {h':Heap}{t':Nat}{ob:HO}(I:Inv X pins σ H s)(mu:Mut (H a))(hs:Heap.SameBut a s.heap h')(he:∃q,h'.get? a=some q)(new:zac X.prog X.w (upd H a ob) h' a ob):
  Inv X pins σ (upd H a ob) {s with heap:=h',toks:=t'}:=
 I.write (x:=a) (e:=a) mu (.inl rfl) (λb q hb z=>(hs.2 b hb).trans z) he new
def zj0 {P:Program}{w:World}{H':Hp}{h':Heap}{kvs:QG}{vs:List (Key ×Value)}(z:kvs.length<=sizeLine)(hd:(a==sysModules)=false)(rel:KV kvs vs)(dd:h'.DictOf (zal P w) a vs):
  zac P w H' h' a (.dK kvs):=⟨z,hd,vs,rel,dd⟩
def zma {H':Hp}{Q:QD}(hu:A.units+1 < cLine)(I:Inv X pins σ H s)(g:DPut H a y v H')(ry:RelV y u)(rv:RelV v r)(h:∀s',Inv X pins σ H' s'->Q () s'):
  wpAny (model X.prog X.w) A (setItem (.ref a) u r) Q E s:=by
 rcases g with ⟨kvs,k,e,ey,l,eH⟩ | ⟨kvs,k,b,e,ey,eb,l,eH⟩
 ·subst ey eH;obtain⟨z,hd,vs,rel,dd⟩:=zkG I.hok e;have hz:vs.length<=sizeLine:=by rw[<-rel.length];exact z
  have hl:(putK kvs k v).length<=sizeLine:=by have:=zdh kvs k v;omega
  refine wpAny_setItem_pairs (hsz:=hz) (zft ry) dd λh' dd' hs=>h _ ?_;have he:∃q,h'.get? a=some q:=let ⟨q,_,_,hq,_⟩:=dd';⟨q,hq⟩;exact zfI I (by rw[e];exact True.intro) hs he (zj0 hl hd (rel.put k rv) dd')
 ·subst ey eH;cases (show u=Value.ref b from ry);obtain⟨z,hd,xs,rel,dd⟩:=zrI I.hok e;have hz:xs.length<=sizeLine:=by rw[<-Paired.length rel];exact z
  have hl:(putK kvs k v).length<=sizeLine:=by have:=zdh kvs k v;omega
  refine wpAny_setItem_heap (hsz:=hz) (tupleKind_room_in1 hu) (zgl I.hok eb) dd λh' dd' hs=>h _ ?_;obtain⟨q,es,ep,hq,h2,h3,h4,_,h5⟩:=dd';refine zfI I (by rw[e];exact True.intro) hs ⟨q,hq⟩ ⟨hl,hd,_,(rel.put k eb rv).keeps λc ys ec=>?_,q,es,ep,hq,h2,h3,h4,h5⟩;rw[zk (za4 ec e (λz=>nomatch z))];exact ec
end
section
variable {X:Cx}{pins:QE}{σ:St}{H:Hp}{s:Shared}{a:Addr}{kvs:QG}{k:Key}{u:Value}{A:Around}{E:QC}
def zrm {Q:QD}(I:Inv X pins σ H s)(e:H a=some (.dK kvs))(ry:RelV (kV k) u)(l:(valV kvs k).isSome=true)(h:∀s',Inv X pins σ (upd H a (.dK (zhv kvs k))) s'->Q () s'):
  wpAny (model X.prog X.w) A (delItem (.ref a) u) Q E s:=by
 obtain⟨z,hd,vs,rel,dd⟩:=zkG I.hok e;refine wpAny_delItem_slot dd.typeIs (by decide) PySem.F.slot_dict_delitem
  (call_meetsIn PySem.F.slot_dict_delitem dd.typeIs PySem.F.entry_dict_delitem (PySem.F.args_dict_delitem_2 _ _) (meets_dict_delitem_pairs (zal X.prog X.w) a (zft ry)) ⟨vs,dd,by rw[<-rel.length];exact z,by rw[<-(rel.val k).isSome_eq];exact l,λh' dd' hs=>h _ ?_⟩)
 have he:∃q,h'.get? a=some q:=let ⟨q,_,_,hq,_⟩:=dd';⟨q,hq⟩
 exact zfI I (by rw[e];exact True.intro) hs he (zj0 (Jk (zgr kvs k) z) hd (rel.drop k) dd')
def zro {v:V}{more:QN}{Q:QC}(I:Inv X pins σ H s)(e:H a=some (.dK kvs))(ry:RelV (kV k) u)(l:valV kvs k=some v)(hm:more=[]\/∃x,more=[x])
  (h:∀w' s',Inv X pins σ (upd H a (.dK (zhv kvs k))) s'->RelV v w'->Q w' s'):wpAny (model X.prog X.w) A (call (.builtin "dict.pop") (.ref a::u::more)) Q E s:=by
 obtain⟨z,hd,vs,rel,dd⟩:=zkG I.hok e;obtain⟨w',hw,rw'⟩:=RelO.some_of (v:=v) (o:=valueAt vs k) (by rw[<-l];exact rel.val k);have hp:(keyPart u).isSome=true:=by
  cases k with
  | inl i=>obtain⟨t,q⟩:=(show∃t,u=Value.int i t from ry);subst q;rfl
  | inr x=>obtain⟨t,q⟩:=(show∃t,u=Value.str x t from ry);subst q;rfl
 have ha:argsOk "dict.pop" ⟨.ref a::u::more,[]⟩:=by
  rcases hm with q | ⟨x,q⟩
  ·subst q;exact PySem.F.args_dict_pop_2 _ _
  ·subst q;exact PySem.F.args_dict_pop_3 _ _ _
 refine call_meetsIn PySem.F.slot_dict_pop dd.typeIs PySem.F.entry_dict_pop ha (meets_dict_pop_there (zal X.prog X.w) a (zft ry) more hm hp)
  ⟨vs,w',dd,by rw[<-rel.length];exact z,hw,λh' dd' hs=>h w' _ ?_ rw'⟩
 have he:∃q,h'.get? a=some q:=let ⟨q,_,_,hq,_⟩:=dd';⟨q,hq⟩
 exact zfI I (by rw[e];exact True.intro) hs he (zj0 (Jk (zgr kvs k) z) hd (rel.drop k) dd')
def zqn {r:Value}{Q:QC}(I:Inv X pins σ H s)(e:H a=some (.dK kvs))(ry:RelV (kV k) u)(l:valV kvs k=none)(h:∀s',Inv X pins σ H s'->Q r s'):
  wpAny (model X.prog X.w) A (call (.builtin "dict.pop") [.ref a,u,r]) Q E s:=by
 obtain⟨z,hd,vs,rel,dd⟩:=zkG I.hok e;have hn:valueAt vs k=none:=RelO.none_of (by rw[<-l];exact rel.val k);have hp:(keyPart u).isSome=true:=by
  cases k with
  | inl i=>obtain⟨t,q⟩:=(show∃t,u=Value.int i t from ry);subst q;rfl
  | inr x=>obtain⟨t,q⟩:=(show∃t,u=Value.str x t from ry);subst q;rfl
 exact call_meetsIn PySem.F.slot_dict_pop dd.typeIs PySem.F.entry_dict_pop (PySem.F.args_dict_pop_3 _ _ _) (meets_dict_pop_default (zal X.prog X.w) a (zft ry) hd hp r) ⟨vs,dd,hn,h _ (I.tok _)⟩
end
def NoSl (i:Expr):Prop:=∀ov iv,subscripted i false ov iv=operate [ov,iv] (getItem ov iv)
def zoO {prog:Program}{w:World}{A:Around}{E:QC}{s:Shared}{env:Env}{value slice:Expr}{pos:Pos}{T id:String}{Q:QC}
  (hl:typeLookup (.type T) "__getitem__" =pure (some (.builtin id))) (hs:NoSl slice)
  (h:wpAny (model prog w) A (eval value env) (λo s₁=>wpAny (model prog w) A (eval slice env) (λi s₂=>s₂.TypeIs o T/\wpAny (model prog w) A (getItem o i) Q E s₂) E s₁) E s):
  wpAny (model prog w) A (eval (.Subscript value slice pos) env) Q E s:=by
 refine Subscript_ (wpAny_mono h (λo s₁ h₁=>wpAny_mono h₁ (λi s₂ h₂=>?_) λ_ _ x=>x) λ_ _ x=>x);obtain⟨hT,h₂⟩:=h₂;unfold subscriptTail;refine Ja ?_;rw[getitemInPython_of_ne hT.not_modules];refine Ja (wpAny_specialOf hT hl ?_);have fin:wpAny (model prog w) A (subscripted slice false o i) (λr s₃=>wpAny (model prog w) A (letTemporaryGo value o r >>=λ_=>pure r) Q E s₃) E s₂:=by rw[hs o i];exact wpAny_operating (wpAny_mono h₂ (λr s₃ h₃=>Ja (wpAny_letTemporaryGo (wpAny_pure h₃))) λ_ _ x=>x)
 first
  | exact wpAny_pure (Ja fin)
  | exact Ja (wpAny_pure (Ja fin))
  | exact Ja fin
def ziI {X:Cx}{pins:QE}{σ:St}{H:Hp}{s:Shared}{a:Addr}{y:V}{o:Option V}(I:Inv X pins σ H s)(g:DGet H a y o):s.TypeIs (.ref a) "dict" :=by
 rcases g with ⟨kvs,k,e,_,_⟩ | ⟨kvs,k,b,e,_,_,_⟩
 ·obtain⟨_,_,vs,_,dd⟩:=zht I.hok e;exact dd.typeIs
 ·obtain⟨_,_,xs,_,dd⟩:=zhx I.hok e;exact dd.typeIs
def zrC (td ty:TE):TE:=fun σ H Q=>td σ H λx H1=>ty σ H1 λy H2=>∃a v,x=.ref a/\DGet H2 a y (some v)/\Q v H2
def tDIn (ty td:TE):TE:=fun σ H Q=>ty σ H λy H1=>td σ H1 λx H2=>∃a o,x=.ref a/\DGet H2 a y o/\Q (.bl o.isSome) H2
def zoM (ty td:TE):TE:=fun σ H Q=>ty σ H λy H1=>td σ H1 λx H2=>∃a o,x=.ref a/\DGet H2 a y o/\Q (.bl (!o.isSome)) H2
def zrH (td ty tv:TE):TS:=λD σ H=>tv σ H λv H1=>td σ H1 λx H2=>ty σ H2 λy H3=>∃a H4,x=.ref a/\DPut H3 a y v H4/\D.nx σ H4
section
variable {X:Cx}{o i e value:Expr}{pos pos' tpos:Pos}{td ty tv:TE}
theorem zcu (hu:X.A.units+1 < cLine)(ho:PE X o td)(hi:PE X i ty)(hs:NoSl i):PE X (.Subscript o i pos) (zrC td ty):=by intro pins s σ H Q I h;refine zoO PySem.F.slot_dict_getitem.lookup hs (thn (ho pins s σ H _ I h) λu s1 ⟨x,H1,I1,rx,q1⟩=>thn (hi pins s1 σ H1 _ I1 q1) λiv s2 ⟨y,H2,I2,ry,a,v,ex,g,q2⟩=>?_);subst ex;obtain rfl:u=Value.ref a:=rx;exact⟨ziI I2 g,zlY hu I2 g ry λw' s3 I3 rw'=>⟨v,H2,I3,rw',q2⟩⟩
def zmx (hu:X.A.units+1 < cLine)(hi:PE X i ty)(ho:PE X o td):PC X .In i o (tDIn ty td):=by intro pins s σ H Q I h;refine thn (hi pins s σ H _ I h) λiv s1 ⟨y,H1,I1,ry,q1⟩=>thn (ho pins s1 σ H1 _ I1 q1) λu s2 ⟨x,H2,I2,rx,a,ov,ex,g,q2⟩=>?_;subst ex;obtain rfl:u=Value.ref a:=rx;exact d_in hu I2 g ry λs3 I3=>⟨.bl ov.isSome,H2,I3,rfl,q2⟩
def ze0 (hu:X.A.units+1 < cLine)(hi:PE X i ty)(ho:PE X o td):PC X .NotIn i o (zoM ty td):=by intro pins s σ H Q I h;refine thn (hi pins s σ H _ I h) λiv s1 ⟨y,H1,I1,ry,q1⟩=>thn (ho pins s1 σ H1 _ I1 q1) λu s2 ⟨x,H2,I2,rx,a,ov,ex,g,q2⟩=>?_;subst ex;obtain rfl:u=Value.ref a:=rx;exact zpj hu I2 g ry λs3 I3=>⟨.bl (!ov.isSome),H2,I3,rfl,q2⟩
def zec (hu:X.A.units+1 < cLine)(ho:PE X o td)(hi:PE X i ty)(hv:PE X value tv)(hs:swapsWith value (some (.Subscript o i pos')) pos.line X.env=pure false):
  PS X (.Assign [.Subscript o i pos'] value pos) (zrH td ty tv):=by
 intro pins s σ H D I h;refine wpAny_Assign_Subscript (thn (hv pins s σ H _ I h) λr s1 ⟨v,H1,I1,rv,q1⟩=>thn (ho pins s1 σ H1 _ I1 q1) λu s2 ⟨x,H2,I2,rx,q2⟩=>thn (hi pins s2 σ H2 _ I2 q2) λiv s3 ⟨y,H3,I3,ry,a,H4,ex,g,q3⟩=>?_) hs;subst ex;obtain rfl:u=Value.ref a:=rx;exact zma hu I3 g ry rv λs4 I4=>⟨σ,H4,I4,q3⟩
end
def zmy {P:Program}{w:World}{H:Hp}(h:Heap)(hb:sysModules < h.objs.size):zac P w H (h.push {cls:=.type "dict",data:=.dict #[]}) h.objs.size (.dK []):=
 ⟨Nat.zero_le _,beq_eq_false_iff_ne.mpr (Ne.symm (Jl hb)),[],.nil,Heap.DictOf.new h⟩
def zq0:TE:=λ_ H Q=>∀p,H p=none->Q (.ref p) (upd H p (.dK []))
section
variable {X:Cx}{pos:Pos}
def zc9:PE X (.Dict [] [] pos) zq0:=λpins s σ H Q I h=>
 wpAny_Dict_empty ⟨.ref s.heap.objs.size,_,I.laid (a:=s.heap.objs.size) (o:=.dK []) (t':=s.toks) (λ_ _ q=>Heap.get?_push_of_some _ q) (Jb _) (zmy s.heap I.big),rfl,h _ (I.hok.fresh (Jb _))⟩
end
def znM:List (TE ×TE)->St->Hp->(List (V ×V)->Hp->Prop)->Prop
 | [],_,H,Q=>Q [] H
 | (tk,tv)::r,σ,H,Q=>tk σ H λx H1=>tv σ H1 λy H2=>znM r σ H2 λps H3=>Q ((x,y)::ps) H3
abbrev VV:List (V ×V)->List (Value ×Value)->Prop:=Paired λp q=>RelV p.1 q.1/\RelV p.2 q.2
def PPs (X:Cx)(pos:Pos)(keys:List (Option Expr))(values:List Expr)(trs:List (TE ×TE)):Prop:=
 ∀(pins:QE) (s:Shared) (σ:St) (H:Hp) (Q:List (V ×V)->Hp->Prop),Inv X pins σ H s->znM trs σ H Q->
  wpAny (model X.prog X.w) X.A (evalPairs (pairTrees keys values X.env pos)) (λvs s'=>∃ps H',Inv X pins σ H' s'/\VV ps vs/\Q ps H') X.xe s
structure M1 (X:Cx)(o:Expr)(m:Str)(apos:Pos)(e:Expr)(cpos:Pos):Prop where
 base:attributeBase o m X.env (eval o X.env)=eval o X.env
 few:((backTo cpos (starEach [e] X.env)).all (λx=>!x.1) && (backToKw cpos (keywordEach [] X.env)).all (λx=>x.1.isSome)
  && decide (([e]:List Expr).length+([]:List Keyword).length+(if ([]:List Keyword).isEmpty then 0 else 1) < 30))=true
 line:(apos.endLine==cpos.line)=true
 trees:backTo cpos (starEach [e] X.env)=[(false,eval e X.env)]
structure M2 (X:Cx)(o:Expr)(m:Str)(apos:Pos)(e f:Expr)(cpos:Pos):Prop where
 base:attributeBase o m X.env (eval o X.env)=eval o X.env
 few:((backTo cpos (starEach [e,f] X.env)).all (λx=>!x.1) && (backToKw cpos (keywordEach [] X.env)).all (λx=>x.1.isSome)
  && decide (([e,f]:List Expr).length+([]:List Keyword).length+(if ([]:List Keyword).isEmpty then 0 else 1) < 30))=true
 line:(apos.endLine==cpos.line)=true
 trees:backTo cpos (starEach [e,f] X.env)=[(false,eval e X.env),(false,eval f X.env)]
def IsD (H:Hp)(a:Addr):Prop:=(∃kvs,Rd H a (.dK kvs))\/∃kvs,Rd H a (.dT kvs)
def zqK {X:Cx}{pins:QE}{σ:St}{H:Hp}{s:Shared}{a:Addr}(I:Inv X pins σ H s)(d:IsD H a):
  s.TypeIs (.ref a) "dict" /\(∀b,Value.ref a=.ref b->∃ob,s.heap.get? b=some ob/\ob.dict=none)/\(a==sysModules)=false:=by
 rcases d with ⟨kvs,e⟩ | ⟨kvs,e⟩
 ·obtain⟨_,hd,vs,_,dd⟩:=zht I.hok e;refine⟨dd.typeIs,λb q=>?_,hd⟩;cases q;obtain⟨ob,_,_,h1,h2,_⟩:=dd;exact⟨ob,h1,h2.2.1⟩
 ·obtain⟨_,hd,xs,_,dd⟩:=zhx I.hok e;refine⟨dd.typeIs,λb q=>?_,hd⟩;cases q;obtain⟨ob,_,_,h1,h2,_⟩:=dd;exact⟨ob,h1,h2.2.1⟩
section
variable {X:Cx}{pins:QE}{σ:St}{H:Hp}{s:Shared}{a:Addr}{y d:V}{u r:Value}{o:Option V}{A:Around}{E:QC}
end
def zqE (td ty tx:TE):TE:=fun σ H Q=>td σ H λx H1=>∃a,x=.ref a/\IsD H1 a/\ty σ H1 λy H2=>tx σ H2 λz H3=>∃kvs k,H3 a=some (.dK kvs)/\y=kV k/\
 (∀v,valV kvs k=some v->Q v (upd H3 a (.dK (zhv kvs k))))/\(valV kvs k=none->Q z H3)
section
variable {X:Cx}{o e f:Expr}{apos cpos:Pos}{td ty tx:TE}
def zn2 (ho:PE X o td)(he:PE X e ty)(hf:PE X f tx)(m:M2 X o "pop" apos e f cpos):PE X (.Call (.Attribute o "pop" apos) [e,f] [] cpos) (zqE td ty tx):=by
 intro pins s σ H Q I h;refine wpAny_Call_method m.base m.few m.line PySem.F.plainAttrs_dict PySem.F.slot_dict_pop PySem.F.type_dict_pop (thn (ho pins s σ H _ I h) λu s1 ⟨x,H1,I1,rx,a,ex,d,q1⟩=>?_);subst ex;obtain rfl:u=Value.ref a:=rx;obtain⟨t1,t2,_⟩:=zqK I1 d;refine⟨t1,t2,?_⟩;rw[m.trees];refine Calls.callWith_builtin rfl (Calls.evalArgs_plain (Calls.spliced_cons (thn (he pins s1 σ H1 _ I1 q1) λiv s2 ⟨y,H2,I2,ry,q2⟩=>
  Calls.spliced_cons (thn (hf pins s2 σ H2 _ I2 q2) λfv s3 ⟨z,H3,I3,rz,kvs,k,ea,ey,q3,q4⟩=>Calls.spliced_nil ?_))))
 subst ey;cases l:valV kvs k with
 | some v=>exact zro I3 ea ry l (.inr ⟨fv,rfl⟩) λw' s4 I4 rw'=>⟨v,_,I4,rw',q3 v l⟩
 | none=>exact zqn I3 ea ry l λs4 I4=>⟨z,H3,I4,rz,q4 l⟩
end
section
variable {X:Cx}{pins:QE}{σ:St}{H:Hp}{s:Shared}{a:Addr}{kvs:QG}{A:Around}{E:QC}
end
section
variable {X:Cx}{pins:QE}{σ:St}{H:Hp}{s:Shared}{a:Addr}{y:V}{u:Value}{A:Around}{E:QC}
end
end L2
namespace Px
open PySem
def Tb (h:Heap)(e:Addr)(cls:Value)(od:QM)(T:Addr)(fl:Value):Prop:=
 ∃oe vs oT ts,h.get? e=some oe/\oe.cls=cls/\oe.dict=od/\oe.data=.fields vs/\vs[1]? =some (.ref T)/\T≠e/\h.get? T=some oT/\oT.data=.fields ts/\ts[3]? =some fl
structure Chg (fs:QO)(e T:Addr)(h h':Heap):Prop where
 size:h.objs.size<=h'.objs.size
 keep:∀b o,h.get? b=some o->b∉fs->b≠e->b≠T->h'.get? b=some o
 slot:∀b o,h.get? b=some o->b∈fs->b≠e->b≠T->∃sl,h'.get? b=some {o with slots:=sl}
def zqQ (o:Obj)(f:Array Value->Array Value):(Obj.mapFields f o).cls=o.cls:=Obj.cls_mapFields _ _
def zpo (o:Obj)(f:Array Value->Array Value):(Obj.mapFields f o).dict=o.dict:=by obtain⟨c,d,dt,sl⟩:=o;cases dt <;> rfl
section
variable {M:Model}{A:Around}{E:QC}{s:Shared}{base:Heap}{env:Env}{outer:List Env}{L e T:Addr}
def entry {oe:Obj}{vs:Array Value}{head:Value}{hadNext:Bool}{Q:QD}(hfr:A.frames=some (env::outer))
  (hl:s.heap.FunFrames base (env::outer)) (hf:env.frame=some L)
  (he:s.heap.get? e=some oe) (hd:oe.data=.fields vs) (hsz:1 < vs.size)
  (h:∀h' T',s.heap.objs.size<=T'->Tb h' e oe.cls oe.dict T' (rawInt L)->Chg ((env::outer).filterMap (·.frame)) e T' s.heap h'->Q () {s with heap:=h'}):
  wpAny M A (do
   let a<-frameOf env
   let pl<-entryPlaceOf L hadNext
   let b<-EntryCells.newEntry head a .none (rawInt L) .none pl
   setField (.ref e) 1 b) Q E s:=by
 have nfr:e∉(env::outer).filterMap (·.frame):=λhm=>by obtain⟨_,o,ho,hnf⟩:=hl.mem hm;have z:oe=o:=Option.some.inj (he.symm.trans ho);exact hnf vs (by rw[<-z];exact hd)
 refine Ja (wpAny_frameOf_fun hfr hl hf λg x=>?_);refine Ja (wpAny_entryPlaceOf λpl hp=>?_);unfold EntryCells.newEntry newFields;refine Ja (wpAny_newObj_type ?_ (hp.sizeOk5 _ _ _ _ _));have ge:g.get? e=some oe:=(x.2.1 e nfr).trans he;generalize hN:({cls:=.type "traceback",dict:=none,data:=.fields ([head,.ref L,.none,rawInt L,.none]++(if pl.isEmpty then List.replicate 6 Value.none else pl)).toArray}:Obj)=N;have nfN:N.isFreed=false:=by rw[<-hN];rfl
 have dN:∃ts,N.data=.fields ts/\ts[3]? =some (rawInt L):=by rw[<-hN];exact⟨_,rfl,by first | (simp;done) | (rcases hp with rfl | ⟨_,_,_,_,_,_,_,rfl⟩ <;> simp)⟩
 have pe:(g.push N).get? e=some oe:=Heap.get?_push_of_some N ge;have pT:(g.push N).get? g.objs.size=some N:=Heap.get?_push_size g nfN;have Te:g.objs.size≠e:=Ne.symm (Jl (Heap.lt_size ge));refine wpAny_setField pe hd hsz (h _ g.objs.size (by rw[x.1];exact Jb _) ?_ ?_)
 ·obtain⟨ts,d1,d2⟩:=dN;have dd:=Obj.data_mapFields hd (·.setIfInBounds 1 (Value.ref g.objs.size));refine⟨_,_,N,ts,Heap.get?_update_self _ pe (Obj.isFreed_of_fields dd),zqQ _ _,zpo _ _,dd,by simp[hsz],Te,?_,d1,d2⟩;exact(Heap.get?_update_other _ _ (Ne.symm Te)).trans pT
 ·refine⟨?_,λb o q1 q2 q3 q4=>?_,λb o q1 q2 q3 q4=>?_⟩
  ·rw[Heap.size_after_update,Heap.size_push,x.1];exact Nat.le_succ _
  ·exact(Heap.get?_update_other _ _ (Ne.symm q3)).trans (Heap.get?_push_of_some N ((x.2.1 b q2).trans q1))
  ·obtain⟨sl,q⟩:=x.2.2 b o q1;exact⟨sl,(Heap.get?_update_other _ _ (Ne.symm q3)).trans (Heap.get?_push_of_some N q)⟩
def zrN {oe:Obj}{vs:Array Value}{Q:QD}(hfr:A.frames=some (env::outer))(hl:s.heap.FunFrames base (env::outer))(hf:env.frame=some L)
  (he:s.heap.get? e=some oe) (hd:oe.data=.fields vs) (h1:vs[1]? =some .none)
  (h:∀h' T',s.heap.objs.size<=T'->Tb h' e oe.cls oe.dict T' (rawInt L)->Chg ((env::outer).filterMap (·.frame)) e T' s.heap h'->Q () {s with heap:=h'}):
  wpAny M A (noteFrame (.ref e) env) Q E s:=by
 unfold noteFrame;simp only[hf];refine Ja (wpAny_field he hd h1 ?_);rw[if_neg (by decide)];exact entry hfr hl hf he hd (Array.getElem?_eq_some_iff.mp h1).1 h
def zpP {cls:Value}{od:QM}{Q:QD}(hfr:A.frames=some (env::outer))(hl:s.heap.FunFrames base (env::outer))(hf:env.frame=some L)
  (t:Tb s.heap e cls od T .none)
  (h:∀h' T',s.heap.objs.size<=T'->Tb h' e cls od T' (rawInt L)->Chg ((env::outer).filterMap (·.frame)) e T s.heap h'->Q () {s with heap:=h'}):
  wpAny M A (noteFrame (.ref e) env) Q E s:=by
 obtain⟨oe,vs,oT,ts,he,hc,ho,hd,h1,hTe,hT,hdT,h3⟩:=t;unfold noteFrame;simp only[hf];refine Ja (wpAny_field he hd h1 ?_);rw[if_pos (show(Value.ref T !=Value.none)=true from by simp)];refine Ja (wpAny_field hT hdT h3 ?_);rw[if_neg (show¬((Value.none==rawInt L)=true) from by simp[rawInt])];refine Ja (wpAny_setField hT hdT (Array.getElem?_eq_some_iff.mp h3).1 ?_);have oth:∀b,b≠T->(s.heap.update T (Obj.mapFields (·.setIfInBounds 3 Value.none))).get? b=s.heap.get? b:=λb hb=>Heap.get?_update_other _ _ (Ne.symm hb);have apart:∀b o,s.heap.get? b=some o->(∀vs,o.data≠ .fields vs)->b≠T:=λb o hb hn q=>by subst q;exact hn ts (by rw[<-Option.some.inj (hT.symm.trans hb)];exact hdT)
 refine entry (s:={s with heap:=s.heap.update T (Obj.mapFields (·.setIfInBounds 3 Value.none))}) hfr
  (hl.of_keeps λb o hb hn=>⟨o,(oth b (apart b o hb hn)).trans hb,rfl⟩) hf ((oth e (Ne.symm hTe)).trans he) hd (Array.getElem?_eq_some_iff.mp h1).1 λh' T' z1 z2 z3=>?_
 have z1':s.heap.objs.size<=T':=by rw[<-Heap.size_after_update s.heap T (Obj.mapFields (·.setIfInBounds 3 Value.none))];exact z1
 rw[hc,ho] at z2;refine h h' T' z1' z2 ⟨?_,λb o q1 q2 q3 q4=>?_,λb o q1 q2 q3 q4=>?_⟩
 ·rw[<-Heap.size_after_update s.heap T (Obj.mapFields (·.setIfInBounds 3 Value.none))];exact z3.size
 ·exact z3.keep b o ((oth b q4).trans q1) q2 q3 λq=>Jh (Heap.lt_size q1) (Nat.not_lt.mpr (q ▸ z1'))
 ·exact z3.slot b o ((oth b q4).trans q1) q2 q3 λq=>Jh (Heap.lt_size q1) (Nat.not_lt.mpr (q ▸ z1'))
def zdZ {fs:QO}{cls fl:Value}{od:QM}{Q:QD}(t:Tb s.heap e cls od T fl)
  (h:∀h',Tb h' e cls od T .none->Chg fs e T s.heap h'->(∀b o,s.heap.get? b=some o->b≠T->h'.get? b=some o)->Q () {s with heap:=h'}):wpAny M A (setFlight (.ref e) none) Q E s:=by
 obtain⟨oe,vs,oT,ts,he,hc,ho,hd,h1,hTe,hT,hdT,h3⟩:=t;have z3:3 < ts.size:=(Array.getElem?_eq_some_iff.mp h3).1;have oth:∀b,b≠T->(s.heap.update T (Obj.mapFields (·.setIfInBounds 3 ((none:QM).elim Value.none λf=>rawInt f)))).get? b=s.heap.get? b:=
  λb hb=>Heap.get?_update_other _ _ (Ne.symm hb)
 unfold setFlight;refine Ja (wpAny_field he hd h1 ?_);rw[if_pos (show(Value.ref T !=Value.none)=true from by simp)];have dd:=Obj.data_mapFields hdT (·.setIfInBounds 3 ((none:QM).elim Value.none λf=>rawInt f));refine wpAny_setField hT hdT z3 (h _ ⟨oe,vs,_,_,(oth e (Ne.symm hTe)).trans he,hc,ho,hd,h1,hTe,Heap.get?_update_self _ hT (Obj.isFreed_of_fields dd),dd,by simp[z3]⟩ ?_ ?_)
 ·refine⟨?_,λb o q1 _ _ q4=>(oth b q4).trans q1,λb o q1 _ _ q4=>⟨o.slots,(oth b q4).trans q1⟩⟩;rw[Heap.size_after_update];exact Jb _
 ·exact λb o q1 q4=>(oth b q4).trans q1
end
structure Chg2 (fs:QO)(own:Addr->Prop)(h h':Heap):Prop where
 size:h.objs.size<=h'.objs.size
 keep:∀b o,h.get? b=some o->b∉fs->¬own b->h'.get? b=some o
 slot:∀b o,h.get? b=some o->b∈fs->¬own b->∃sl,h'.get? b=some {o with slots:=sl}
def Chg.two {fs:QO}{own:Addr->Prop}{e T:Addr}{h h':Heap}(c:Chg fs e T h h')(o1:own e)(o2:own T\/h.get? T=none):Chg2 fs own h h':=by
 have nT:∀b o,h.get? b=some o->¬own b->b≠T:=λb o q n z=>by
  subst z;rcases o2 with y | y
  ·exact n y
  ·rw[y] at q;cases q
 exact⟨c.size,λb o q a n=>c.keep b o q a (λz=>n (z ▸ o1)) (nT b o q n),λb o q a n=>c.slot b o q a (λz=>n (z ▸ o1)) (nT b o q n)⟩
theorem Chg2.trans {fs:QO}{own:Addr->Prop}{h h1 h2:Heap}(a:Chg2 fs own h h1)(b:Chg2 fs own h1 h2):Chg2 fs own h h2:=
 ⟨Jk a.size b.size,λc o q n m=>b.keep c o (a.keep c o q n m) n m,λc o q n m=>by obtain⟨s1,e1⟩:=a.slot c o q n m;obtain⟨s2,e2⟩:=b.slot c _ e1 n m;exact⟨s2,e2⟩⟩
section
variable {M:Model}{A:Around}{E:QC}{s:Shared}{base:Heap}{env:Env}{outer:List Env}{L e T:Addr}
def zqC {oe:Obj}{vs:Array Value}{Q:QD}(hfr:A.frames=some (env::outer))(hl:s.heap.FunFrames base (env::outer))(hf:env.frame=some L)
  (he:s.heap.get? e=some oe) (hd:oe.data=.fields vs) (h1:vs[1]? =some .none)
  (h:∀h' T',s.heap.objs.size<=T'->Tb h' e oe.cls oe.dict T' .none->Chg2 ((env::outer).filterMap (·.frame)) (· =e) s.heap h'->Q () {s with heap:=h'}):
  wpAny M A (leaving env (.ref e)) Q E s:=by
 unfold leaving;refine Ja (zrN hfr hl hf he hd h1 λg T' z t c=>?_);refine zdZ (s:={s with heap:=g}) (fs:=(env::outer).filterMap (·.frame)) t λh' t' c' k=>h h' T' z t' ?_;have n:s.heap.get? T'=none:=Heap.get?_none_of_le z;refine⟨Jk c.size c'.size,λb o q a m=>?_,λb o q a m=>?_⟩
 ·have bT:b≠T':=λy=>by subst y;rw[n] at q;cases q
  exact k b o (c.keep b o q a m bT) bT
 ·have bT:b≠T':=λy=>by subst y;rw[n] at q;cases q
  obtain⟨sl,y⟩:=c.slot b o q a m bT;exact⟨sl,k b _ y bT⟩
def zqu {cls:Value}{od:QM}{Q:QD}(hfr:A.frames=some (env::outer))(hl:s.heap.FunFrames base (env::outer))(hf:env.frame=some L)
  (t:Tb s.heap e cls od T .none)
  (h:∀h' T',s.heap.objs.size<=T'->Tb h' e cls od T' .none->Chg2 ((env::outer).filterMap (·.frame)) (λb=>b=e\/b=T) s.heap h'->Q () {s with heap:=h'}):
  wpAny M A (leaving env (.ref e)) Q E s:=by
 unfold leaving;refine Ja (zpP hfr hl hf t λg T' z t1 c=>?_);refine zdZ (s:={s with heap:=g}) (fs:=(env::outer).filterMap (·.frame)) t1 λh' t' c' k=>h h' T' z t' ?_;have n:s.heap.get? T'=none:=Heap.get?_none_of_le z;refine⟨Jk c.size c'.size,λb o q a m=>?_,λb o q a m=>?_⟩
 ·have bT:b≠T':=λy=>by subst y;rw[n] at q;cases q
  exact k b o (c.keep b o q a (λy=>m (.inl y)) λy=>m (.inr y)) bT
 ·have bT:b≠T':=λy=>by subst y;rw[n] at q;cases q
  obtain⟨sl,y⟩:=c.slot b o q a (λy=>m (.inl y)) λy=>m (.inr y);exact⟨sl,k b _ y bT⟩
def znG {cls:Value}{od:QM}{Q:QD}(hfr:A.frames=some (env::outer))(hl:s.heap.FunFrames base (env::outer))(hf:env.frame=some L)
  (t:Tb s.heap e cls od T .none)
  (h:∀h' T',s.heap.objs.size<=T'->Tb h' e cls od T' .none->Chg2 ((env::outer).filterMap (·.frame)) (λb=>b=e\/b=T) s.heap h'->Q () {s with heap:=h'}):
  wpAny M A (noteFrame (.ref e) env) (λ_ s'=>wpAny M A (setFlight (.ref e) none) Q E s') E s:=by
 refine zpP hfr hl hf t λg T' z t1 c=>?_;refine zdZ (s:={s with heap:=g}) (fs:=(env::outer).filterMap (·.frame)) t1 λh' t' c' k=>h h' T' z t' ?_;have n:s.heap.get? T'=none:=Heap.get?_none_of_le z;refine⟨Jk c.size c'.size,λb o q a m=>?_,λb o q a m=>?_⟩
 ·have bT:b≠T':=λy=>by subst y;rw[n] at q;cases q
  exact k b o (c.keep b o q a (λy=>m (.inl y)) λy=>m (.inr y)) bT
 ·have bT:b≠T':=λy=>by subst y;rw[n] at q;cases q
  obtain⟨sl,y⟩:=c.slot b o q a (λy=>m (.inl y)) λy=>m (.inr y);exact⟨sl,k b _ y bT⟩
end
end Px
namespace Px
open PySem PySem.W PySem.Builtin PySem.Builtin.ObjectAttr
abbrev bmV:List Value:=[.type "ValueError",.type "Exception",.type "BaseException",.type "object"]
def xIn (K:Frag)(C:Addr):Bool:=match K.lookup C with
 | some ⟨.type "type",_,.cls cd,sl⟩=>(match cd.mro,sl.toList with
  | .ref D::bm,[_,_,_,_,some (.builtin n),_]=>D==C && n== "ValueError.__new__" && !cd.hasDel && tailIn K bmV bm
  | _,_=>false)
 | _=>false
def zny {K:Frag}{h:Heap}{C:Addr}(X:K.In h)(q:xIn K C=true):∃nm qn N bs bm hd sn sub ab col dd k0 k1 k2 k3 k5,
  h.get? C=some (excClassObj nm qn C N bs bm hd sn sub ab col dd k0 k1 k2 k3 k5 "ValueError.__new__")/\OwnTail h bmV bm:=by
 unfold xIn at q;split at q
 ·rename_i dd cd sl ho;split at q
  ·rename_i D bm k0 k1 k2 k3 n k5 hm hs;simp only[Bool.and_eq_true,beq_iff_eq,Bool.not_eq_true'] at q;obtain⟨⟨⟨y1,y2⟩,y3⟩,y4⟩:=q;subst y1;subst y2;obtain⟨nm,bs,mro,ns,qn,hd,sn,sub,ab,col,del⟩:=cd;dsimp only at hm y3;subst hm;subst y3;have e:sl= #[k0,k1,k2,k3,some (.builtin "ValueError.__new__"),k5]:=by obtain⟨l⟩:=sl;exact congrArg Array.mk hs
   subst e;exact⟨nm,qn,ns,bs,bm,hd,sn,sub,ab,col,dd,k0,k1,k2,k3,k5,X _ _ ho,tail_of_in X y4⟩
  ·cases q
 ·cases q
abbrev zjI (C t:Addr):Obj:={cls:=.ref C,data:=.fields #[.ref t,.none,.none,.none,.bool false,.none]}
abbrev zqW (vs:QN):Obj:={cls:=.type "tuple",data:=.seq vs.toArray}
abbrev zbN (h:Heap)(C:Addr)(vs:QN):Heap:=(h.push (zqW vs)).push (zjI C h.objs.size)
def zc0 {h:Heap}{C:Addr}{vs:QN}{b:Addr}{o:Obj}(e:h.get? b=some o):(zbN h C vs).get? b=some o:=
 Heap.get?_push_of_some _ (Heap.get?_push_of_some _ e)
def zgf {h:Heap}{C:Addr}{vs:QN}:(zbN h C vs).get? (h.objs.size+1)=some (zjI C h.objs.size):=
 Heap.get?_push_at (by rw[Heap.size_push]) rfl
section
variable {prog:Program}{w:World}{A:Around}{E:QC}{h:Heap}{g:Array GenState}{d:Drawn}{t:Nat}{os:OsState}{K:Frag}{C fI:Addr}{vs:QN}
def zlu {Q:Fin->Shared->Prop}(X:K.In h)(q:xIn K C=true)(hi:findIn K (.ref C) "__init__" =some (some (.ref fI))) (hf:typeIn K (.ref fI)=some (.type "function"))
  (hq:wpAny (model prog w) A (call (.ref fI) (.ref (h.objs.size+1)::vs)) (λr s'=>r=.none/\Q (.done (.ret (.ref (h.objs.size+1)))) s') E ⟨zbN h C vs,g,d,t,os⟩) (hz:vs.length<=sizeLine):
  wpAny (model prog w) A (Builtin.«type.__call__» ⟨.ref C::vs,[]⟩) Q E ⟨h,g,d,t,os⟩:=by
 obtain⟨nm,qn,N,bs,bm,hd,sn,sub,ab,col,dd,k0,k1,k2,k3,k5,cO,tl⟩:=zny X q;have FV:=PySem.F.excBase_ValueError;have inV:bmV.contains (.type "ValueError")=true:=by decide
 repeat (first | with_reducible refine wpAny_loadPart_at cO ?_ | with_reducible refine wpAny_madeBy_exc cO ?_ | wp_step)
 refine codeAny_call_builtin_code (Code.quiet_builtin _ FV.quiet) (wpAny_check_new_subU FV inV tl cO ?_);refine codeAny_exc_new_subU FV inV FV tl cO ?_ hz;show wpAny _ _ _ _ _ _;have cO1:(zbN h C vs).get? C=_:=zc0 cO;have X1:K.In (zbN h C vs):=X.keeps λb o e=>zc0 e;have at1:(zbN h C vs).get? (h.objs.size+1)=some (zjI C h.objs.size):=zgf;have cC:(Value.ref C::bm).contains (.ref C)=true:=by simp
 unfold isInstance
 repeat (first | with_reducible refine wpAny_loadPart_at at1 ?_ | (with_reducible refine wpAny_isSubtype_exc cO1 ?_;rw[cC]) | wp_step)
 show wpAny _ _ (typeLookup (.ref C) _) _ _ _;refine(looks_findIn X1 hi).here (s:=⟨zbN h C vs,g,d,t,os⟩) ?_;refine wpAny_holding (Ja ((bind_fn X1 _ hf).here (s:=⟨zbN h C vs,g,d,t,os⟩) ?_));refine Ja (wpAny_mono hq (λr s' hr=>?_) λ_ _ x=>x);obtain⟨e1,hQ⟩:=hr;subst e1
 wp_walk
 exact hQ
def zlD {Q:QC}(X:K.In h)(q:xIn K C=true)(hi:findIn K (.ref C) "__init__" =some (some (.ref fI))) (hf:typeIn K (.ref fI)=some (.type "function"))
  (hq:wpAny (model prog w) (A.under (.builtin "type.__call__" ⟨.ref C::vs,[]⟩)) (call (.ref fI) (.ref (h.objs.size+1)::vs)) (λr s'=>r=.none/\Q (.ref (h.objs.size+1)) s') E ⟨zbN h C vs,g,d,t,os⟩)
  (hz:vs.length<=sizeLine):wpAny (model prog w) A (call (.ref C) vs) Q E ⟨h,g,d,t,os⟩:=by
 obtain⟨nm,qn,N,bs,bm,hd,sn,sub,ab,col,dd,k0,k1,k2,k3,k5,cO,tl⟩:=zny X q;have l1:=tc_lookup;have l2:=tc_bind (.ref C);have isT:(⟨h,g,d,t,os⟩:Shared).TypeIs (.ref C) "type" :=⟨_,cO,rfl⟩;refine wpAny_call (codeAny_of_tree ?_);show wpAny _ _ (callAny (.ref C) _) _ _ _
 repeat (any_goals (first | assumption | with_reducible refine wpAny_loadPart_at cO ?_ | wp_step))
 refine⟨rfl,?_⟩;refine codeAny_call_builtin_at (Code.quiet_builtin _ (by decide+kernel)) entry_typeCall (wpAny_check_type_call_sub cO (zlu X q hi hf ?_ hz));exact hq
def zjs {s:Shared}{Q:QC}(X:K.In s.heap)(q:excIn K C bmV "ValueError.__new__" =true)
  (hq:∀h' e,Heap.MadeExcOf s.heap h' e (.ref C) vs->Q (.ref e) {s with heap:=h'}) (hz:vs.length<=sizeLine):wpAny (model prog w) A (call (.ref C) vs) Q E s:=by
 obtain⟨h,g,d,t,os⟩:=s;have FV:=PySem.F.excBase_ValueError;have inV:bmV.contains (.type "ValueError")=true:=by decide
 unfold excIn at q;split at q
 ·rename_i dd cd sl ho;split at q
  ·rename_i D bm k0 k1 k2 k3 n k5 hm hs;simp only[Bool.and_eq_true,beq_iff_eq,Bool.not_eq_true'] at q;obtain⟨⟨⟨⟨⟨y1,y2⟩,y3⟩,y4⟩,y5⟩,y6⟩:=q;subst y1;subst y2;obtain⟨nm,bs,mro,ns,qn,hd,sn,sub,ab,col,del⟩:=cd;dsimp only at hm y3 y5 y6;subst hm;subst y3;have e:sl= #[k0,k1,k2,k3,some (.builtin "ValueError.__new__"),k5]:=by obtain⟨l⟩:=sl;exact congrArg Array.mk hs
   subst e;exact wpAny_call_exc_subU FV inV FV (tail_of_in X y4) (X _ _ ho) (.of_isNs (isNs_of_in X y5)) (nsMap_none_of_in X y5 y6) hq hz
  ·cases q
 ·cases q
end
section
variable {prog:Program}{w:World}{A:Around}{E:QC}{s:Shared}{env:Env}{K:Frag}
def zj1 {x:Sem Value}{Q:Flow->Shared->Prop}(hh:A.handled=none)
  (h:wpAny (model prog w) A x (λv s₁=>∃e C t oe,v=.ref e/\K.In s₁.heap/\xIn K C=true/\s₁.heap.get? e=some oe/\oe.cls=.ref C/\oe.data=.fields #[.ref t,.none,.none,.none,.bool false,.none]/\E (.ref e) s₁) E s):
  wpAny (model prog w) A (raiseStmt env (some x) none) Q E s:=by
 unfold raiseStmt;refine Ja (wpAny_mono h (λv s₁ h₁=>?_) λ_ _ x=>x);obtain⟨e,C,t,oe,rfl,X,q,he,hc,hd,hE⟩:=h₁;obtain⟨nm,qn,N,bs,bm,hdc,sn,sub,ab,col,dd,k0,k1,k2,k3,k5,cO,tl⟩:=zny X q;have cB:(Value.ref C::bm).contains (.type "BaseException")=true:=by rw[List.contains_cons,tl.hasType (show bmV.contains (.type "BaseException")=true from by decide),Bool.or_true]
 obtain⟨hp,g,d,tk,os⟩:=s₁;obtain⟨c0,d0,dt,sl⟩:=oe;dsimp only at hc hd;subst hc;subst hd
 repeat (first | with_reducible refine wpAny_loadPart_at he ?_ | with_reducible refine wpAny_loadPart_at cO ?_ | (with_reducible refine wpAny_isSubtype_exc cO ?_;rw[cB]) | wp_step)
 exact wpAny_raiseNew_none hh hE
end
def zcZ:List Value->Bool
 | []=>false
 | v::r=>(v::r)==bmV || (match v with | .ref _=>zcZ r | _=>false)
theorem zcy {P:List Value->Prop}(base:P bmV)(own:∀c r,P r->P (.ref c::r)):∀{l:QN},zcZ l=true->P l
 | [],e=>by cases e
 | v::r,e=>by
  unfold zcZ at e;rcases Bool.or_eq_true_iff.mp e with q | q
  ·rw[beq_iff_eq.mp q];exact base
  ·cases v <;> first | exact own _ _ (zcy base own q) | cases q
def zgs (K:Frag)(C:Addr):Bool:=(clsIn K C).any λcd=>zcZ cd.mro && cd.hasDict
theorem zjW (self:Value){l:QN}(e:zcZ l=true):refuseLoop self "__setattr__" l=pure ():=
 zcy (P:=λl=>refuseLoop self "__setattr__" l=pure ()) (PySem.F.store_ValueError.passes self) (λc r q=>by rw[refuseLoop_ref];exact q) e
def zoX {v:Value}(hv:bmV.contains v=true){l:QN}(e:zcZ l=true):l.contains v=true:=
 zcy (P:=λl=>l.contains v=true) hv (λc r q=>by rw[List.contains_cons,q,Bool.or_true]) e
theorem zqU {l:QN}(e:zcZ l=true):l.isEmpty=false:=by
 cases l with
 | nil=>cases e
 | cons _ _=>rfl
section
variable {prog:Program}{w:World}{A:Around}{E:QC}{s:Shared}{K:Frag}{x C:Addr}{ox:Obj}{name:Str}{v:Value}
noncomputable abbrev _root_.Jy:=@Bool.and_eq_true_iff
def zmv {M:Model}{od:Option Obj}{T:String}(X:K.In s.heap)(I:InstAt s.heap x ox C od)(hp:zgs K C=true)(hT:bmV.contains (.type T)=true):Looks M s.heap (isInstance (.ref x) (.type T)) true:=by obtain⟨cd,hc,ho⟩:=any_some hp;obtain⟨o1,o2⟩:=Jy.mp ho;refine I.type.andThen (looks_mroIn X ?_);unfold mroIn;rw[hc,Option.bind_some,if_neg (by rw[zqU o1];decide),zoX hT o1]
def znv {R:Result->Shared->Prop}{od:Option Obj}{tk:Tok}(X:K.In s.heap)(I:InstAt s.heap x ox C od)(hp:zgs K C=true)(ht:findIn K (.ref C) name=some none)
  (h:∀b,wpAny (model prog w) A.in1 (storeInOwnDict (.ref x) (.ref C) (.str name tk) name v b)
   (λfin s'=>match fin with
    | .done f=>R (.ok f) s'
    | .again c'=>c'.quiet=true/\codeAny (model prog w) A c' R s') (λe s'=>R (.error e) s') s):
  codeAny (model prog w) A (.call (.builtin "object.__setattr__") ⟨[.ref x,.str name tk,v],[]⟩) R s:=by
 have FS:=PySem.F.store_ValueError;have isO:=zmv (M:=model prog w) (T:= "object") X I hp (by decide);obtain⟨cd,hc,ho⟩:=any_some hp;obtain⟨o1,o2⟩:=Jy.mp ho;refine codeAny_call_builtin FS.slot.plain FS.entry (@check_slot (model prog w) _ _ s "object.__setattr__" "object" "__setattr__" (.ref x) [.str name tk,v] [] _ FS.kind FS.split isO (FS.args (.ref x) (.str name tk) v) ?_);have mr:Looks (model prog w) s.heap (mroOf (.ref C)) cd.mro:=(looks_clsIn X hc).andThen .now;rw[osa_eq,refuse_eq];refine Ja (Ja (I.type.here (Ja (mr.here ?_))));rw[zjW _ o1];have nt:Looks (model prog w) s.heap (storeTaker? none) none:=.now;refine wpAny_pure (Ja (I.type.here (Ja ((looks_findIn X ht).here (Ja (nt.here ?_))))));exact h _
def zqt {Q:QD}{vs:Array Value}{sl:QJ}(X:K.In s.heap)(hx:s.heap.get? x=some ⟨.ref C,none,.fields vs,sl⟩)(hp:zgs K C=true)
  (hs:findIn K (.ref C) "__setattr__" =some (some (.builtin "object.__setattr__"))) (ht:findIn K (.ref C) name=some none)
  (h:∀h' tk,h'.get? x=some ⟨.ref C,some s.heap.objs.size,.fields vs,sl⟩->h'.Ns1 s.heap.objs.size (λy=>if y=name then some v else none)->s.heap.objs.size<=h'.objs.size->
   (∀b o,b≠x->s.heap.get? b=some o->h'.get? b=some o)->Q () {s with heap:=h',toks:=tk}):wpAny (model prog w) A (setAttr (.ref x) name v) Q E s:=by
 have I:InstAt s.heap x ⟨.ref C,none,.fields vs,sl⟩ C none:=⟨hx,rfl,rfl,trivial⟩;obtain⟨cd,hc,ho⟩:=any_some hp;obtain⟨o1,o2⟩:=Jy.mp ho;refine set_plain X I hs (znv (s:={s with toks:=s.toks+1}) X I hp ht λb=>?_);refine Ja (wpAny_pure (Ja (Ja (wpAny_loadPart hx (Ja (Looks.here (s:={s with toks:=s.toks+1}) (looks_clsIn X hc) ?_))))));rw[o2];have hx1:(s.heap.push {cls:=.type "dict",data:=.dict #[]}).get? x=some ⟨.ref C,none,.fields vs,sl⟩:=Heap.get?_push_of_some _ hx;have xs:x≠s.heap.objs.size:=Jl (Heap.lt_size hx);refine Ja (wpAny_alloc' ?_);refine Ja (wpAny_update' hx1 ?_);refine wpAny_pure ?_;have gd:((s.heap.push {cls:=.type "dict",data:=.dict #[]}).update x λo=>{o with dict:=some s.heap.objs.size}).get? s.heap.objs.size=some {cls:=.type "dict",data:=.dict #[]}:=
  (Heap.get?_update_other _ _ xs).trans (Heap.get?_push_size _ rfl)
 have gx:((s.heap.push {cls:=.type "dict",data:=.dict #[]}).update x λo=>{o with dict:=some s.heap.objs.size}).get? x=some ⟨.ref C,some s.heap.objs.size,.fields vs,sl⟩:=
  Heap.get?_update_self _ hx1 rfl
 have nd:((s.heap.push {cls:=.type "dict",data:=.dict #[]}).update x λo=>{o with dict:=some s.heap.objs.size}).Ns s.heap.objs.size (λ_=>none):=
  ⟨_, #[],_,gd,rfl,λe he=>Jh he (by simp),λ_=>rfl⟩
 show wpAny _ _ (storeInDict s.heap.objs.size (.str name _) name v) _ _ _;unfold storeInDict newKeyGuard;refine Ja (wpAny_pure (Ja (wpAny_nsSet1 (Heap.Ns1.of_empty nd) λh' n' sb=>?_)));obtain⟨oD,esD,epD,q1,q2,q3⟩:=n'.count (Within.cons name v Within.nil);refine Ja (wpAny_lookBehind q1 (by rw[q2];exact pastItsLine_dict (Jk q3 (by rw[List.length_cons,List.length_nil,sizeLine_eq];omega))) ?_);refine wpAny_pure (h h' _ ((sb.2 x xs).trans gx) n' ?_ λb o bx e=>?_)
 ·rw[sb.1,Heap.size_after_update,Heap.size_push];exact Nat.le_succ _
 ·exact(sb.2 b (Jl (Heap.lt_size e))).trans ((Heap.get?_update_other _ _ (Ne.symm bx)).trans (Heap.get?_push_of_some _ e))
def zqD {Q:QD}{vs:Array Value}{sl:QJ}{dx:Addr}{mA:QB}{ns:QP}(X:K.In s.heap)(hx:s.heap.get? x=some ⟨.ref C,some dx,.fields vs,sl⟩)(hd:s.heap.Ns1 dx mA)(hp:zgs K C=true)
  (hs:findIn K (.ref C) "__setattr__" =some (some (.builtin "object.__setattr__"))) (ht:findIn K (.ref C) name=some none) (hw:Within mA ns) (hz:ns.length<=sizeLine)
  (h:∀h' tk,h'.Ns1 dx (λy=>if y=name then some v else mA y)->Heap.SameBut dx s.heap h'->Q () {s with heap:=h',toks:=tk}):wpAny (model prog w) A (setAttr (.ref x) name v) Q E s:=by
 obtain⟨od,es0,ep0,g1,g2⟩:=id hd;have I:InstAt s.heap x ⟨.ref C,some dx,.fields vs,sl⟩ C (some od):=⟨hx,rfl,rfl,g1⟩;obtain⟨cd,hc,ho⟩:=any_some hp;obtain⟨o1,o2⟩:=Jy.mp ho;refine set_plain X I hs (znv (s:={s with toks:=s.toks+1}) X I hp ht λb=>?_);refine Ja (wpAny_pure (Ja (Ja (wpAny_loadPart hx (Ja (Looks.here (s:={s with toks:=s.toks+1}) (looks_clsIn X hc) ?_))))));rw[o2];refine wpAny_pure (a:=some dx) (Ja (wpAny_pure (Ja ?_)));refine wpAny_nsSet1 (s:={s with toks:=s.toks+1}) hd λh' n2 sb=>?_;obtain⟨oD,esD,epD,q1,q2,q3⟩:=n2.count (Within.cons name v hw);refine Ja (wpAny_lookBehind q1 (by rw[q2];exact pastItsLine_dict (Jk q3 (by rw[List.length_cons];omega))) ?_);exact wpAny_pure (h _ _ n2 sb)
def zrJ {Q:QC}{expr:Bool}{od:Obj}(X:K.In s.heap)(I:InstAt s.heap x ox C (some od))(hp:zgs K C=true)
  (hga:findIn K (.ref C) "__getattribute__" =some (some (.builtin "BaseException.__getattribute__"))) (hgn:findIn K (.ref C) "__getattr__" =some none)
  (hf:findObj K C (some od) name=some (.value v)) (hh:handedIn v=true) (h:Q v {s with toks:=s.toks+1}):wpAny (model prog w) A (getAttr (.ref x) name expr) Q E s:=by
 have isB:=zmv (M:=model prog w) (T:= "BaseException") X I hp (by decide);obtain⟨hp',g,d,t,os⟩:=s;have L0:=I.type (M:=model prog w);have L1:=looks_findIn (M:=model prog w) X hga;have L2:=looks_findIn (M:=model prog w) X hgn;have L3:=looks_find (M:=model prog w) X I hf;have FB:=PySem.F.attrBase_ValueError;have bi:=FB.ga.bind (.ref x);have kd:builtinKind "BaseException.__getattribute__" =some .slot:=by decide+kernel
 have sp:splitId "BaseException.__getattribute__" =some ("BaseException","__getattribute__"):=by decide+kernel
 unfold getAttr getAttrBy;refine Ja (wpAny_mkText (wpAny_holding (Ja (L0.at (Ja (L1.at ?_))))));have nb:(onTheHeap (Value.ref C) && Value.builtin "BaseException.__getattribute__" ==Value.builtin "object.__getattribute__")=false:=by rw[show(Value.builtin "BaseException.__getattribute__" ==Value.builtin "object.__getattribute__")=false from by decide+kernel,Bool.and_false]
 dsimp only;rw[nb,if_neg Jf];unfold getAttrByItsOwn;refine Ja ?_;show wpAny _ _ (typeLookup (.ref C) "__getattr__") _ _ _;refine L2.at ?_;have ne:(expr && onTheHeap (Value.builtin "BaseException.__getattribute__"))=false:=by cases expr <;> rfl
 unfold callGetattribute;rw[ne,if_neg Jf];unfold boundAndCalled;refine Ja (wpAny_attempt (wpAny_holding ?_));rw[bi];refine Ja (wpAny_pure ?_);refine wpAny_call (codeAny_call_builtin FB.ga.plain PySem.F.entry_bexc_ga (@check_slot (model prog w) _ _ _ "BaseException.__getattribute__" "BaseException" "__getattribute__" (.ref x) [.str name t] [] _ kd sp isB (PySem.F.args_bexc_ga _ _) ?_));unfold Builtin.«object.__getattribute__»
 repeat (any_goals (first | assumption | with_reducible refine Ja (L0.at ?_) | with_reducible refine Ja (L3.at ?_) | wp_step))
 show wpAny _ _ (handedOut v) _ _ _;rw[handedOut_of hh];exact wpAny_pure h
end
end Px
namespace L2
open PySem PySem.Spec PyProof.Rows Px
def exO (a C:Addr)(od:QM)(fr:Bool):HO:=.ext λh=>∃vs sl,h.get? a=some ⟨.ref C,od,.fields vs,sl⟩/\(fr=true->∃t,vs= #[.ref t,.none,.none,.none,.bool false,.none])
def xdO (a:Addr)(fs:List (Str ×V)):HO:=.ext λh=>∃mA,h.Ns1 a mA/\(∀f,RelO (fs.lookup f) (mA f))/\PySem.Within mA (fs.map (·.1))
def del (H:Hp)(a:Addr):Hp:=λb=>if b=a then none else H b
theorem zcG {H:Hp}{a:Addr}:del H a a=none:=by unfold del;rw[if_pos rfl]
theorem zcj {H:Hp}{a b:Addr}(h:b≠a):del H a b=H b:=by unfold del;rw[if_neg h]
theorem zh0 {H:Hp}{a:Addr}{o:HO}(h:H a=none):del (upd H a o) a=H:=by
 funext b;unfold del upd;by_cases e:b=a
 ·rw[if_pos e,e,h]
 ·rw[if_neg e,if_neg e]
section
variable {P:Program}{w:World}{H H':Hp}{h h' h2:Heap}{a C:Addr}{o:HO}{fs ex fs':QO}{own:Addr->Prop}
def zh5 {od:QM}{fr:Bool}{vs:Array Value}{sl:QJ}(e:h.get? a=some ⟨.ref C,od,.fields vs,sl⟩)(f:fr=true->∃t,vs= #[.ref t,.none,.none,.none,.bool false,.none]):zac P w H h a (exO a C od fr):=
 ⟨⟨vs,sl,e,f⟩,⟨_,e⟩,λ_ _ ⟨vs,sl,e,f⟩ k=>⟨vs,sl,k _ e,f⟩⟩
def zct {od:QM}{fr:Bool}(ok:HOk P w H h)(e:H a=some (exO a C od fr)):∃vs sl,h.get? a=some ⟨.ref C,od,.fields vs,sl⟩/\(fr=true->∃t,vs= #[.ref t,.none,.none,.none,.bool false,.none]):=
 (show zac P w H h a (exO a C od fr) from ok a _ e).1
def znz {l:List (Str ×V)}{mA:QB}(n:h.Ns1 a mA)(r:∀f,RelO (l.lookup f) (mA f))(wi:PySem.Within mA (l.map (·.1))):zac P w H h a (xdO a l):=
 ⟨⟨mA,n,r,wi⟩,let ⟨o,_,_,e,_⟩:=n;⟨o,e⟩,λ_ _ ⟨mA,n,r,wi⟩ k=>⟨mA,n.at k,r,wi⟩⟩
def zkv {l:List (Str ×V)}(ok:HOk P w H h)(e:H a=some (xdO a l)):∃mA,h.Ns1 a mA/\(∀f,RelO (l.lookup f) (mA f))/\PySem.Within mA (l.map (·.1)):=
 (show zac P w H h a (xdO a l) from ok a _ e).1
def HOk.track (x:HOk P w H h)(n:H a=none)(new:zac P w (upd H a o) h a o):HOk P w (upd H a o) h:=λb u e=>by
 by_cases hb:b=a
 ·subst hb;rw[zg] at e;cases e;exact new
 ·rw[zk hb] at e;exact(x b u e).stay (λ_ _ _ q=>q) (λc q=>by rw[zk (zm q n)];exact q) λc xs q=>by rw[zk (zm q n)];exact q
def Un.track (u:Un fs ex H H' h h')(n:H' a=none)(nw:∀ob,h.get? a=some ob->a∈ex\/H a≠none):Un fs ex H (upd H' a o) h h' where
 keep:=u.keep
 slot:=u.slot
 free:=λb ob q m hx=>by
  rw[zk]
  ·exact u.free b ob q m hx
  ·intro e;subst e;rcases nw ob q with z | z
   ·exact hx z
   ·exact z m
 there:=u.there
 tups:=λb xs q=>by rw[zk (zm (u.tups b xs q) n)];exact u.tups b xs q
 frzs:=λb ob v q=>by rw[zk (zm (u.frzs b ob v q) n)];exact u.frzs b ob v q
 tbls:=λb ps q=>by obtain⟨m,e⟩:=u.tbls b ps q;exact⟨m,by rw[zk (zm e n)];exact e⟩
def HOk.drop {φ:Heap->Prop}(x:HOk P w H h)(e:H a=some (.ext φ)):HOk P w (del H a) h:=λb u q=>by
 by_cases hb:b=a
 ·rw[hb,zcG] at q;cases q
 ·rw[zcj hb] at q;exact(x b u q).stay (λ_ _ _ z=>z) (λc z=>by rw[zcj (za4 z e (by intro y;cases y))];exact z) λc xs z=>by rw[zcj (za4 z e (by intro y;cases y))];exact z
def Un.drop {φ:Heap->Prop}(u:Un fs ex H H' h h')(e:H' a=some (.ext φ)):Un fs ex H (del H' a) h h' where
 keep:=u.keep
 slot:=u.slot
 free:=λb ob q m hx=>by
  by_cases hb:b=a
  ·rw[hb];exact zcG
  ·rw[zcj hb];exact u.free b ob q m hx
 there:=u.there
 tups:=λb xs q=>by rw[zcj (za4 (u.tups b xs q) e (by intro y;cases y))];exact u.tups b xs q
 frzs:=λb ob v q=>by rw[zcj (za4 (u.frzs b ob v q) e (by intro y;cases y))];exact u.frzs b ob v q
 tbls:=λb ps q=>by obtain⟨m,z⟩:=u.tbls b ps q;exact⟨m,by rw[zcj (za4 z e (by intro y;cases y))];exact z⟩
def Un.chg (u:Un fs ex H H' h h')(c:Chg2 fs' own h' h2)(hfs:∀b ob,h.get? b=some ob->b∈fs'->b∈fs)
  (nw:∀b,own b->h.get? b=none\/(H b≠none/\∃o',h2.get? b=some o')):Un fs ex H H' h h2:=by
 have no:∀b ob,h.get? b=some ob->H b=none->¬own b:=λb ob q n z=>by
  rcases nw b z with y | y
  ·rw[y] at q;cases q
  ·exact y.1 n
 refine⟨λb ob q n hb hx=>c.keep b ob (u.keep b ob q n hb hx) (λz=>hb (hfs b ob q z)) (no b ob q n),λb ob q n hb hx=>?_,u.free,λb ob q hx=>?_,u.tups,u.frzs,u.tbls⟩
 ·obtain⟨sl,e⟩:=u.slot b ob q n hb hx;by_cases z:b∈fs'
  ·obtain⟨s2,e2⟩:=c.slot b _ e z (no b ob q n);exact⟨s2,e2⟩
  ·exact⟨sl,c.keep b _ e z (no b ob q n)⟩
 ·obtain⟨o',e⟩:=u.there b ob q hx;by_cases y:own b
  ·rcases nw b y with z | z
   ·rw[z] at q;cases q
   ·exact z.2
  ·by_cases z:b∈fs'
   ·obtain⟨s2,e2⟩:=c.slot b _ e z y;exact⟨_,e2⟩
   ·exact⟨_,c.keep b _ e z y⟩
def HOk.chg (x:HOk P w H h)(c:Chg2 fs' own h h2)(n1:∀b,own b->H b=none)(n2:∀b∈fs',H b=none):HOk P w H h2:=λb u e=>by
 have k:∀c' v,(∃z,H c'=some z)->h.get? c'=some v->h2.get? c'=some v:=λc' v ⟨z,hz⟩ q=>
  c.keep c' v q (λm=>by rw[n2 c' m] at hz;cases hz) (λm=>by rw[n1 c' m] at hz;cases hz)
 refine(x b u e).stay (λc' v hc q=>k c' v ?_ q) (λ_ q=>q) λ_ _ q=>q;rcases hc with z | z
 ·rw[z];exact⟨_,e⟩
 ·exact⟨_,z⟩
end
section
variable {X:Cx}{pins:QE}{σ:St}{H:Hp}{s:Shared}{h':Heap}
def zac.thereN {P:Program}{w:World}{H:Hp}{h:Heap}{a:Addr}{u:HO}(x:zac P w H h a u):∃ob,h.get? a=some ob:=by
 cases u with
 | lst xs=>obtain⟨_,_,_,_,e⟩:=x;exact⟨_,e⟩
 | tup xs=>obtain⟨_,_,_,ob,e,_⟩:=x;exact⟨_,e⟩
 | dK kvs=>obtain⟨_,_,_,_,o,_,_,e,_⟩:=x;exact⟨_,e⟩
 | dT kvs=>obtain⟨_,_,_,_,o,_,_,e,_⟩:=x;exact⟨_,e⟩
 | set S n=>obtain⟨o,_,_,_,e,_⟩:=x;exact⟨_,e⟩
 | ins C dx fs=>obtain⟨_,_,_,e,_⟩:=x;exact⟨_,e⟩
 | own y=>exact x
 | xd fs=>obtain⟨_,⟨_,_,_,e,_⟩,_⟩:=x;exact⟨_,e⟩
 | rng lo hi=>obtain⟨_,_,_,e⟩:=x;exact⟨_,e⟩
 | frz ob u=>obtain⟨e,_⟩:=x;exact⟨_,e⟩
 | tbl ps=>exact⟨_,(show h.get? a=some _ from x)⟩
 | met f y=>exact⟨_,(show h.get? a=some _ from x)⟩
 | ext φ=>exact x.2.1
def HOk.noneN {P:Program}{w:World}{H:Hp}{h:Heap}{a:Addr}(x:HOk P w H h)(n:h.get? a=none):H a=none:=by
 cases q:H a with
 | none=>rfl
 | some u=>obtain⟨ob,z⟩:=(x a u q).thereN;rw[n] at z;cases z
def Inv.laidN {a:Addr}{o:HO}{t':Nat}(I:Inv X pins σ H s)(k:∀b u,s.heap.get? b=some u->h'.get? b=some u)(hp:s.heap.get? a=none)(new:zac X.prog X.w (upd H a o) h' a o):
  Inv X pins σ (upd H a o) {s with heap:=h',toks:=t'}:=by
 have n:H a=none:=I.hok.noneN hp;exact I.un ((Un.kept k).track n λob q=>by rw[hp] at q;cases q) ((I.hok.kept k).track n new)
end
def CX1 (P:Program)(w:World):CXT:=λouter H s E e s'=>∃(ea:Addr) (cls:Value) (od:QM) (H':Hp) (T:Addr),e=.ref ea/\s'.os=s.os/\AllBare s'.gens/\Un (frs outer) [] H H' s.heap s'.heap/\HOk P w H' s'.heap/\
 Tb s'.heap ea cls od T .none/\(s.heap.get? ea=none\/H ea≠none)/\s.heap.get? T=none/\H' ea=none/\H' T=none/\E cls od H'
def zcI {fs ex:QO}{H H':Hp}{h h':Heap}{b:Addr}(u:Un fs ex H H' h h')(hx:b∉ex)(n:h'.get? b=none):h.get? b=none:=by
 cases q:h.get? b with
 | none=>rfl
 | some o=>obtain⟨o',e⟩:=u.there b o q hx;rw[n] at e;cases e
section
variable {P:Program}{w:World}{K:QA}{mg:QB}{base:Heap}{N:QP}{qual:Str}{scope:Scope}{f:Addr}{cd:Value}{A:Around}{outer:List Env}{s₀:Shared}{H₀:Hp}{E:XK}
def ziA (X:Cx)(E:XK):Prop:=∀(pins:QE) (σ:St) (H:Hp) (s:Shared) (e C:Addr) (od:QM),Inv X pins σ H s->H e=some (exO e C od true)->E (.ref C) od (del H e)->X.xe (.ref e) s
def zey:ziA (cxOf (CX1 P w) P w K mg base N qual scope f cd A outer s₀ H₀ E) E:=by
 intro pins σ H s e C od I he q;obtain⟨vs,sl,ge,fr⟩:=zct I.hok he;obtain⟨t,rfl⟩:=fr rfl;show wpAny (model P w) (A.deeper _) (leaving _ (.ref e)) _ _ s;refine zqC (base:=base) I.ok.frames I.stack rfl ge rfl rfl λh' T' z tb c=>?_;have nT:s.heap.get? T'=none:=Heap.get?_none_of_le z;have old:s₀.heap.get? e=none\/H₀ e≠none:=by
  cases q1:s₀.heap.get? e with
  | none=>exact .inl rfl
  | some ob=>refine .inr λn=>?_;have:=I.base.free e ob q1 n (by intro z;cases z);rw[he] at this;cases this
 have fr2:∀b∈frs (envOfC qual scope s₀.heap.objs.size f cd::outer),H b=none:=I.stkFree;have te:∃o',h'.get? e=some o':=let ⟨oe,_,_,_,y,_⟩:=tb;⟨oe,y⟩;refine⟨e,.ref C,od,del H e,T',rfl,I.os,I.bare,?_,?_,tb,old,zcI I.base (by intro z;cases z) nT,zcG,?_,q⟩
 ·refine(I.base.drop he).chg (fs':=frs (envOfC qual scope s₀.heap.objs.size f cd::outer)) c (λb ob q1 q2=>?_) λb y=>?_
  ·have lt:=Heap.lt_size q1;rcases List.mem_cons.mp (I.stkSub b q2) with y | y
   ·exact Jh lt (by rw[y];exact Nat.not_lt.mpr (Jb _))
   ·exact y
  ·subst y;rcases old with y | y
   ·exact .inl y
   ·exact .inr ⟨y,te⟩
 ·refine(I.hok.drop he).chg c (λb y=>by rw[y];exact zcG) λb y=>?_;by_cases hb:b=e
  ·rw[hb];exact zcG
  ·rw[zcj hb];exact fr2 b y
 ·have:H T'=none:=I.hok.fresh z;by_cases hb:T'=e
  ·rw[hb];exact zcG
  ·rw[zcj hb];exact this
def zbp (CX:CXT)(X:Cx)(E:St->XK):Prop:=∀(pins:QE) (σ:St) (H:Hp) (s:Shared) (e:Value) (s':Shared),Inv X pins σ H s->CX X.stack H s (E σ) e s'->X.xe e s'
def zL:zbn (CX1 P w) (cxOf (CX1 P w) P w K mg base N qual scope f cd A outer s₀ H₀ E) E:=by
 intro pins σ H s e s' I0 hc;obtain⟨ea,cls,od,H',T,rfl,os,bare,un,hok,tb,old,nT,u1,u2,q⟩:=hc;have I:=I0.call' os un hok bare (λb z=>nomatch z);show wpAny (model P w) (A.deeper _) (leaving _ (.ref ea)) _ _ s';refine zqu (base:=base) I.ok.frames I.stack rfl tb λh' T' z tb' c=>?_;have nT':s'.heap.get? T'=none:=Heap.get?_none_of_le z;have old':s₀.heap.get? ea=none\/H₀ ea≠none:=by
  cases q1:s₀.heap.get? ea with
  | none=>exact .inl rfl
  | some ob=>
   refine .inr λn=>?_;rcases old with y | y
   ·have y':s₀.heap.get? ea=none:=zcI I0.base (by intro z;cases z) y;rw[y'] at q1;cases q1
   ·exact y (I0.base.free ea ob q1 n (by intro z;cases z))
 have te:∃o',h'.get? ea=some o':=let ⟨oe,_,_,_,y,_⟩:=tb';⟨oe,y⟩
 have n0:s₀.heap.get? T=none:=zcI I0.base (by intro z;cases z) nT;refine⟨ea,cls,od,H',T',rfl,I.os,I.bare,?_,?_,tb',old',zcI I.base (by intro z;cases z) nT',u1,hok.fresh z,q⟩
 ·refine I.base.chg (fs':=frs (envOfC qual scope s₀.heap.objs.size f cd::outer)) c (λb ob q1 q2=>?_) λb y=>?_
  ·have lt:=Heap.lt_size q1;rcases List.mem_cons.mp (I.stkSub b q2) with y | y
   ·exact Jh lt (by rw[y];exact Nat.not_lt.mpr (Jb _))
   ·exact y
  ·rcases y with y | y
   ·subst y;rcases old' with y | y
    ·exact .inl y
    ·exact .inr ⟨y,te⟩
   ·subst y;exact .inl n0
 ·refine hok.chg c (λb y=>?_) I.stkFree;rcases y with y | y
  ·rw[y];exact u1
  ·rw[y];exact u2
end
structure XCls (K:QA)(C:Addr):Prop where
 q:xIn K C=true
 ov:zgs K C=true
 sa:PySem.W.findIn K (.ref C) "__setattr__" =some (some (.builtin "object.__setattr__"))
 ga:PySem.W.findIn K (.ref C) "__getattribute__" =some (some (.builtin "BaseException.__getattribute__"))
 gn:PySem.W.findIn K (.ref C) "__getattr__" =some none
 kp:PySem.W.keepIn K (.ref C)=true
theorem XCls.hd {K:QA}{C:Addr}(c:XCls K C):PySem.W.hasDictIn K C=true:=by obtain⟨cd,hc,ho⟩:=PySem.W.any_some c.ov;unfold PySem.W.hasDictIn;rw[hc];exact(Jy.mp ho).2
def tExc (C:Addr)(t:TA):TE:=fun σ H Q=>t σ H λvs H1=>vs.length<=sizeLine/\∀e,H1 e=none->Q (.ref e) (upd H1 e (exO e C none true))
def zpU (C:Addr)(sp:Sp)(t:TA):TE:=fun σ H Q=>t σ H λvs H1=>vs.length<=sizeLine/\∀x,H1 x=none->sp (.ref x::vs) (upd H1 x (exO x C none true)) (λv H2=>v=.non/\Q (.ref x) H2) E0
section
variable {X:Cx}{k:Nat}{f C:Addr}{fd:FuncData}{ps:QP}{sp:Sp}{x:Str}{p pos:Pos}{e:Expr}{es:List Expr}{t:TA}
def zqF (c:XCls X.K C)(hq:PySem.W.excIn X.K C bmV "ValueError.__new__" =true) (hg:Gl X x) (hm:X.mg x=some (.ref C)) (ha:PA X (e::es) t)
  (hdb:(x==("__debug__" :Str))=false:=by decide) (he:starEach (e::es) X.env=(false,eval e X.env)::starEach es X.env:=by rfl) (hpl:(backTo pos (starEach es X.env)).any (·.1)=false:=by rfl):
  PE X (.Call (.Name x p) (e::es) [] pos) (tExc C t):=by
 intro pins s σ H Q I h;refine wpAny_Call_Name_kw (zba I hg hm ?_ hdb);refine PySem.W.callWith_K (h₀:=X.base) I.ok.mod.kin c.kp (thn (ha pos pins s σ H _ I h) λus s1 ⟨vs,H1,I1,r,z,q⟩=>⟨I1.kIn,?_⟩) he hpl;refine zjs I1.kIn hq (λh' ea mk=>?_) (show us.length<=sizeLine by rw[<-r.length];exact z);obtain⟨t,ge,nt,gt⟩:=mk.there;exact⟨.ref ea,_,I1.laidN (t':=s1.toks) mk.keeps mk.new (zh5 ge λ_=>⟨t,rfl⟩),rfl,q ea (I1.hok.noneN mk.new)⟩
def zpk (c:XCls X.K C)(hi:PySem.W.findIn X.K (.ref C) "__init__" =some (some (.ref f))) (hf:PySem.W.isFn X.K (.ref f)=true) (F:FnOk X.prog X.w X.K X.mg X.base CX0 k f fd ps sp) (hr:Room (k+1) X.A) (hb:Binds X.K fd ps [])
  (hg:Gl X x) (hm:X.mg x=some (.ref C)) (ha:PA X (e::es) t)
  (hdb:(x==("__debug__" :Str))=false:=by decide) (he:starEach (e::es) X.env=(false,eval e X.env)::starEach es X.env:=by rfl) (hpl:(backTo pos (starEach es X.env)).any (·.1)=false:=by rfl):
  PE X (.Call (.Name x p) (e::es) [] pos) (zpU C sp t):=by
 intro pins s σ H Q I h;refine wpAny_Call_Name_kw (zba I hg hm ?_ hdb);refine PySem.W.callWith_K (h₀:=X.base) I.ok.mod.kin c.kp (thn (ha pos pins s σ H _ I h) λus s1 ⟨vs,H1,I1,r,z,q⟩=>⟨I1.kIn,?_⟩) he hpl;have I2:Inv X pins σ (upd H1 (s1.heap.objs.size+1) (exO (s1.heap.objs.size+1) C none true)) {s1 with heap:=zbN s1.heap C us}:=
  I1.laidN (t':=s1.toks) (λ_ _ y=>zc0 y) (Heap.get?_none_of_le (Nat.le_succ _)) (zh5 zgf λ_=>⟨_,rfl⟩)
 have hq:=q (s1.heap.objs.size+1) (I1.hok.fresh (Nat.le_succ _));have r2:Vals (V.ref (s1.heap.objs.size+1)::vs) (Value.ref (s1.heap.objs.size+1)::us):=.cons rfl r;have hl:((Value.ref (s1.heap.objs.size+1)::us)++ []).length=ps.length:=by rw[List.append_nil,<-r2.length];exact F.len _ _ _ _ hq
 have hz:us.length<=sizeLine:=by rw[<-r.length];exact z
 obtain⟨h1,g1,d1,t1,o1⟩:=s1;refine zlD I1.kIn c.q hi (beq_iff_eq.mp hf) ?_ hz;have hbb:=hb _ (Value.ref (h1.objs.size+1)::us) I2.kIn hl;rw[List.append_nil] at hbb;refine wpAny_call (codeAny_mono (F.run _ X.stack _ _ ⟨Value.ref (h1.objs.size+1)::us,[]⟩ (Value.ref (h1.objs.size+1)::us) _ _ E0 (hr.make C us []) (I2.env0.make C us []) hbb r2 hq) λr s' hq'=>?_);cases r with
 | error e=>exact False.elim hq'
 | ok fl=>
  cases fl with
  | ret u=>obtain⟨v,H',I3,rv,ev,q3⟩:=I2.after hq';subst ev;exact⟨rv,⟨V.ref (h1.objs.size+1),H',I3,rfl,q3⟩⟩
  | next=>exact False.elim hq'
  | brk=>exact False.elim hq'
  | cont=>exact False.elim hq'
end
def zqA (K:QA)(te:TE)(E:XK):TS:=λD σ H=>te σ H λv H1=>∃e C od,v=.ref e/\H1 e=some (exO e C od true)/\xIn K C=true/\E (.ref C) od (del H1 e)
def zeA {X:Cx}{E:XK}{ex:Expr}{te:TE}{pos:Pos}(hx:ziA X E)(hc:X.calm=true)(he:PE X ex te):PS X (.Raise (some ex) none pos) (zqA X.K te E):=by intro pins s σ H D I h;rw[arm_exec_Raise];refine Ja (wpAny_standAt ?_);refine zj1 (K:=X.K) (I.ok.hd hc) ?_;refine Ja (wpAny_mono (he pins s σ H _ I h) (λv s1 hv=>Ja (wpAny_standAt (wpAny_pure ?_))) λ_ _ z=>z);obtain⟨y,H1,I1,ry,ea,C,od,rfl,hea,qC,hE⟩:=hv;obtain rfl:v=Value.ref ea:=ry;obtain⟨vs,sl,ge,fr⟩:=zct I1.hok hea;obtain⟨t,rfl⟩:=fr rfl;exact⟨ea,C,t,_,rfl,I1.kIn,qC,ge,rfl,rfl,hx pins σ H1 s1 ea C od I1 hea hE⟩
def sXF1 (K:QA)(ta tv:TE)(f:Str):TS:=λD σ H=>tv σ H λy H1=>ta σ H1 λx H2=>∃a C fr,x=.ref a/\H2 a=some (exO a C none fr)/\XCls K C/\zE K C f/\
 ∀d,H2 d=none->d≠a->D.nx σ (upd (upd H2 d (xdO d [(f,y)])) a (exO a C (some d) fr))
def sXF2 (K:QA)(ta tv:TE)(f:Str):TS:=λD σ H=>tv σ H λy H1=>ta σ H1 λx H2=>∃a C fr d l,x=.ref a/\H2 a=some (exO a C (some d) fr)/\H2 d=some (xdO d l)/\d≠a/\XCls K C/\zE K C f/\l.length < 1000/\
 D.nx σ (upd H2 d (xdO d (putF f y l)))
def tXG (K:QA)(ta:TE)(f:Str):TE:=fun σ H Q=>ta σ H λx H1=>∃a C fr d l v,x=.ref a/\H1 a=some (exO a C (some d) fr)/\H1 d=some (xdO d l)/\XCls K C/\zE K C f/\l.lookup f=some v/\Q v H1
section
variable {X:Cx}{o e value:Expr}{f:Str}{pos pos':Pos}{ta tv:TE}
def zqO (ha:PE X o ta)(hv:PE X value tv)(hs:swapsWith value (some (.Attribute o f pos')) pos.line X.env=pure false):PS X (.Assign [.Attribute o f pos'] value pos) (sXF1 X.K ta tv f):=by
 intro pins s σ H D I h;refine plainObj_wpAny_Assign_Attribute (thn (hv pins s σ H _ I h) λu s1 ⟨y,H1,I1,ry,q⟩=>thn (ha pins s1 σ H1 _ I1 q) λov s2 ⟨x,H2,I2,rx,a,C,fr,ex,ea,c,n,q2⟩=>?_) hs;subst ex;obtain rfl:ov=Value.ref a:=rx;obtain⟨vs,sl,ge,hfr⟩:=zct I2.hok ea;refine zqt I2.kIn ge c.ov c.sa n λh' tk gx nd sz kp=>?_;have nd0:H2 s2.heap.objs.size=none:=I2.hok.fresh (Jb _);have da:s2.heap.objs.size≠a:=Ne.symm (Jl (Heap.lt_size ge));have na:∀b,H2 b=none->b≠a:=λb z y=>by rw[y,ea] at z;cases z
 refine⟨σ,_,?_,q2 _ nd0 da⟩;refine I2.un (h':=h') (t':=tk) ⟨λb ob g z _ _=>kp b ob (na b z) g,λb ob g z _ _=>⟨ob.slots,kp b ob (na b z) g⟩,λb ob g z _=>?_,λb ob g _=>?_,λb xs g=>?_,λb ob v g=>?_,λb ps g=>?_⟩ λb w g=>?_
 ·rw[zk (na b z),zk (Jl (Heap.lt_size g))];exact z
 ·by_cases y:b=a
  ·rw[y];exact⟨_,gx⟩
  ·exact⟨_,kp b ob y g⟩
 ·rw[zk (za4 g ea (by intro y;cases y)),zk (zm g nd0)];exact g
 ·rw[zk (za4 g ea (by intro y;cases y)),zk (zm g nd0)];exact g
 ·exact⟨#[],by rw[zk (za4 g ea (by intro y;cases y)),zk (zm g nd0),g];simp⟩
 ·by_cases yy:b=a
  ·subst yy;rw[zg] at g;cases g;exact zh5 gx hfr
  ·rw[zk yy] at g;by_cases y2:b=s2.heap.objs.size
   ·subst y2;rw[zg] at g;cases g;refine znz nd (λj=>?_) λj hj=>?_
    ·show RelO ([(f,y)].lookup j) _;by_cases e:j=f
     ·have hb:(j==f)=true:=beq_iff_eq.mpr e;rw[if_pos e];simp only[List.lookup,hb]
      assumption
     ·have hb:(j==f)=false:=beq_eq_false_iff_ne.mpr e;rw[if_neg e];simp only[List.lookup,hb];exact True.intro
    ·by_cases e:j=f
     ·rw[e];exact List.mem_cons_self
     ·rw[if_neg e] at hj;exact Jh rfl hj
   ·rw[zk y2] at g;refine(I2.hok b w g).stay (λc' v hc gg=>kp c' v ?_ gg) (λc' z=>?_) λc' xs z=>?_
    ·rcases hc with z | z
     ·rw[z];exact yy
     ·exact za4 z ea (by intro y;cases y)
    ·rw[zk (za4 z ea (by intro y;cases y)),zk (zm z nd0)];exact z
    ·rw[zk (za4 z ea (by intro y;cases y)),zk (zm z nd0)];exact z
def zqI (ha:PE X o ta)(hv:PE X value tv)(hs:swapsWith value (some (.Attribute o f pos')) pos.line X.env=pure false):PS X (.Assign [.Attribute o f pos'] value pos) (sXF2 X.K ta tv f):=by
 intro pins s σ H D I h;refine plainObj_wpAny_Assign_Attribute (thn (hv pins s σ H _ I h) λu s1 ⟨y,H1,I1,ry,q⟩=>thn (ha pins s1 σ H1 _ I1 q) λov s2 ⟨x,H2,I2,rx,a,C,fr,d,l,ex,ea,ed,da,c,n,ll,q2⟩=>?_) hs;subst ex;obtain rfl:ov=Value.ref a:=rx;obtain⟨vs,sl,ge,hfr⟩:=zct I2.hok ea;obtain⟨mA,ns,rl,wi⟩:=zkv I2.hok ed;have hz:(l.map (·.1)).length<=sizeLine:=by rw[List.length_map,sizeLine_eq];omega
 refine zqD I2.kIn ge ns c.ov c.sa n wi hz λh' tk nd sb=>?_;have hd:∃o,h'.get? d=some o:=let ⟨o,_,_,e',_⟩:=nd;⟨o,e'⟩;refine⟨σ,_,I2.write (x:=d) (e:=d) (t':=tk) (by rw[ed];exact True.intro) (.inl rfl) (λb w hb z=>(sb.2 b hb).trans z) hd (znz nd (λg=>?_) λg hg=>?_),q2⟩
 ·rw[zdr];by_cases z:g=f
  ·rw[if_pos z,if_pos z];exact ry
  ·rw[if_neg z,if_neg z];exact rl g
 ·by_cases z:g=f
  ·rw[z];exact(zcL f y l).1
  ·refine(zcL f y l).2 g (wi g λw=>hg ?_);show(if g=f then some u else mA g)=none;rw[if_neg z];exact w
def zru (he:PE X e ta)(hb:attributeBase e f X.env (eval e X.env)=eval e X.env):PE X (.Attribute e f pos) (tXG X.K ta f):=by intro pins s σ H Q I h;refine zkA hb (thn (he pins s σ H _ I h) λu s1 ⟨x,H1,I1,rx,a,C,fr,d,l,v,ex,ea,ed,c,n,lk,q⟩=>?_);subst ex;obtain rfl:u=Value.ref a:=rx;obtain⟨vs,sl,ge,hfr⟩:=zct I1.hok ea;obtain⟨mA,ns,rl,wi⟩:=zkv I1.hok ed;obtain⟨w,hw,rw'⟩:=RelO.some_of (v:=v) (o:=mA f) (by rw[<-lk];exact rl f);obtain⟨ob,hob,hl⟩:=zhd ns;have J:PySem.W.InstAt s1.heap a ⟨.ref C,some d,.fields vs,sl⟩ C (some ob):=⟨ge,rfl,rfl,hob⟩;exact zrJ I1.kIn J c.ov c.ga c.gn (PySem.W.findObj_own c.hd n rfl (by rw[hl,hw])) (zhj rw') ⟨v,H1,I1.tok _,rw',q⟩
end
def zno (sp:Sp)(E:St->XK)(t:TA):TE:=fun σ H Q=>t σ H λvs H1=>sp vs H1 Q (E σ)
def zmL (C:Addr)(m:Str)(sp:Sp)(E:St->XK)(ta:TE)(t:TA):TE:=fun σ H Q=>ta σ H λx H1=>∃a dx fs,x=.ref a/\H1 a=some (.ins C dx fs)/\fs.lookup m=none/\t σ H1 λvs H2=>sp (x::vs) H2 Q (E σ)
section
variable {X:Cx}{CX:CXT}{k:Nat}{f C:Addr}{fd:FuncData}{ps:QP}{sp:Sp}{E:St->XK}{x m:Str}{p pos apos:Pos}{e o:Expr}{es:List Expr}{ta:TE}{t:TA}
def zkS {pins:QE}{σ:St}{H:Hp}{s:Shared}{Q:VK}{us:QN}{vs:QQ}(F:FnOk X.prog X.w X.K X.mg X.base CX k f fd ps sp)(hr:Room k X.A)(hb:Binds X.K fd ps [])(hx:zbp CX X E)
  (I:Inv X pins σ H s) (r:Vals vs us) (h:sp vs H Q (E σ)):wpAny (model X.prog X.w) X.A (call (.ref f) us) (EP X pins σ Q) X.xe s:=by
 have hl:(us++ []).length=ps.length:=by rw[List.append_nil,<-r.length];exact F.len _ _ _ _ h
 have hbb:=hb s us I.kIn hl;rw[List.append_nil] at hbb;refine wpAny_call (codeAny_mono (F.run X.A X.stack s H ⟨us,[]⟩ us vs Q (E σ) hr I.env0 hbb r h) λr s' hq=>?_);cases r with
 | error e=>exact hx pins σ H s e s' I hq
 | ok fl=>
  cases fl with
  | ret u=>exact I.after hq
  | next=>exact False.elim hq
  | brk=>exact False.elim hq
  | cont=>exact False.elim hq
def zmO (F:FnOk X.prog X.w X.K X.mg X.base CX k f fd ps sp)(hr:Room k X.A)(hg:Gl X x)(hm:X.mg x=some (.ref f))(hk:PySem.W.keepIn X.K (.ref f)=true)(hb:Binds X.K fd ps [])(hx:zbp CX X E)
  (ha:PA X (e::es) t) (hdb:(x==("__debug__" :Str))=false:=by decide) (he:starEach (e::es) X.env=(false,eval e X.env)::starEach es X.env:=by rfl) (hpl:(backTo pos (starEach es X.env)).any (·.1)=false:=by rfl):
  PE X (.Call (.Name x p) (e::es) [] pos) (zno sp E t):=by
 intro pins s σ H Q I h;refine wpAny_Call_Name_kw (zba I hg hm ?_ hdb);refine PySem.W.callWith_K (h₀:=X.base) I.ok.mod.kin hk (thn (ha pos pins s σ H _ I h) λus s1 ⟨vs,H1,I1,r,q⟩=>⟨I1.kIn,?_⟩) he hpl;exact zkS F hr hb hx I1 r q
def znu {pl:Sem Bool}(he:PE X o ta)(c:Cls X.K C)(hm:Meth X.K C m f)(F:FnOk X.prog X.w X.K X.mg X.base CX k f fd ps sp)(hr:Room k X.A)(hb:Binds X.K fd ps [])(hx:zbp CX X E)(ha:PA X (e::es) t)
  (hst:starEach (e::es) X.env=(false,eval e X.env)::starEach es X.env:=by rfl) (hpl:(backTo pos (starEach es X.env)).any (·.1)=false:=by rfl)
  (ht:eval (.Call (.Attribute o m apos) (e::es) [] pos) X.env=(do
   let ov<-eval o X.env
   standAt apos.atName
   let (f,first) <-holding [ov] (getMethod ov m pl)
   callWith pos f first (backTo pos (starEach (e::es) X.env)) (backToKw pos (keywordEach [] X.env))):=by rfl):
  PE X (.Call (.Attribute o m apos) (e::es) [] pos) (zmL C m sp E ta t):=by
 intro pins s σ H Q I h;refine PySem.W.methodCall_KW (pl:=pl) (thn (he pins s σ H _ I h) λu s1 ⟨x,H1,I1,rx,a,dx,fs,ex,ea,l,q⟩=>?_) ht;subst ex;obtain rfl:u=Value.ref a:=rx;refine zcY I1 ea c hm l ?_;refine PySem.W.callWith_K (first:=[.ref a]) (h₀:=X.base) I.ok.mod.kin hm.kp (thn (ha pos pins s1 σ H1 _ I1 q) λus s2 ⟨vs,H2,I2,r,q2⟩=>⟨I2.kIn,?_⟩) hst hpl;exact zkS (us:=.ref a::us) (vs:=.ref a::vs) F hr hb hx I2 (.cons rfl r) q2
end
def Fun.okX {P:Program}{w:World}{K:QA}{mg:QB}{base:Heap}{x qual:Str}{st:Stmt}{f:Addr}{fd:FuncData}{N ps:QP}{k:Nat}{sp:Sp}(F:Fun K x qual st f fd)(S:zr N ps (ze st))(len:∀vs H Q E,sp vs H Q E->vs.length=ps.length)
  (hbody:∀(cdv:Value) (A:Around) (outer:List Env) (s:Shared) (H:Hp) (vs:QQ) (Q:VK) (E:XK),Room k (A.deeper (envOfC qual (ze st) s.heap.objs.size f cdv))->sp vs H Q E->
   ∃t,PSs (cxOf (CX1 P w) P w K mg base N qual (ze st) f cdv A outer s H E) (zD st) t/\t {nx:=λ_ H'=>Q .non H',rt:=Q} (start N vs) H):FnOk P w K mg base (CX1 P w) (k+1) f fd ps sp:=by
 obtain⟨oc,od,kV,doc,pm,an,cdv,ct,osl,rfl,lk,hcd⟩:=F.ex;exact zpR lk hcd S len λA outer s H vs Q E hr hsp=>hbody cdv A outer s H vs Q E hr hsp
abbrev Cx.tried (X:Cx)(xe:QC)(pn:QE):Cx:={X with xe:=xe,pn:=pn}
abbrev Cx.suite (X:Cx)(e:Addr):Cx:={X with A:=X.A.mark (some (.ref e)),calm:=false,xe:=λ_ _=>False}
section
variable {X:Cx}{pins pins':QE}{σ:St}{H:Hp}{s:Shared}{xe:QC}
def Inv.tried (I:Inv X pins σ H s)(xe:QC):Inv (X.tried xe (X.pn++pins)) [] σ H s:=
 ⟨⟨I.ok.mod,I.ok.kind,I.ok.glob,I.ok.blt,I.ok.above,I.ok.inj,I.ok.has,I.ok.cab,I.ok.hd,I.ok.frames,I.ok.stk,I.ok.exf,I.ok.bs,I.ok.bsz,I.ok.noex,I.ok.exfs,I.ok.funs,I.ok.frf⟩,
  I.os,I.bare,I.base,I.loc,I.cell,I.free,I.freeC,λp hp=>I.pin p (by simpa using hp),I.hok,I.len⟩
def Inv.untried (I:Inv (X.tried xe (X.pn++pins)) pins' σ H s):Inv X pins σ H s:=
 ⟨⟨I.ok.mod,I.ok.kind,I.ok.glob,I.ok.blt,I.ok.above,I.ok.inj,I.ok.has,I.ok.cab,I.ok.hd,I.ok.frames,I.ok.stk,I.ok.exf,I.ok.bs,I.ok.bsz,I.ok.noex,I.ok.exfs,I.ok.funs,I.ok.frf⟩,
  I.os,I.bare,I.base,I.loc,I.cell,I.free,I.freeC,λp hp=>I.pin p (Jq _ hp),I.hok,I.len⟩
def Inv.suite (I:Inv X pins σ H s)(e:Addr):Inv (X.suite e) pins σ H s:=
 ⟨⟨I.ok.mod,I.ok.kind,I.ok.glob,I.ok.blt,I.ok.above,I.ok.inj,I.ok.has,I.ok.cab,(λz=>nomatch z),I.ok.frames,I.ok.stk,I.ok.exf,I.ok.bs,I.ok.bsz,I.ok.noex,I.ok.exfs,I.ok.funs,I.ok.frf⟩,
  I.os,I.bare,I.base,I.loc,I.cell,I.free,I.freeC,I.pin,I.hok,I.len⟩
def Inv.unsuite {e:Addr}(ok:X.Ok)(I:Inv (X.suite e) pins σ H s):Inv X pins σ H s:=
 ⟨ok,I.os,I.bare,I.base,I.loc,I.cell,I.free,I.freeC,I.pin,I.hok,I.len⟩
def zdJ {M:Model}{A:Around}{E:QC}{i:Nat}{n:Str}{pos:Pos}{Q:QD}(I:Inv X pins σ H s)(hN:X.N.Nodup)(hi:X.N[i]? =some n)(hk:X.env.scope.names.lookup n=some .local)
  (h:∀s',Inv X pins (σ.set i none) H s'->Q () s'):wpAny M A (do bindName X.env n .none;unbindBehindTheSuite X.env n pos) Q E s:=by
 obtain⟨m,hn,hl⟩:=id I.loc;have cl:(X.env.scope.kind==.class || (X.env.scope.kind==.module && X.env.locals !=X.env.globals))=false:=by rw[I.ok.kind];rfl
 refine wpAny_nameGoes_keeps hk hn cl λh' v hn' sb=>?_;obtain⟨oL,_,_,gL,_⟩:=id hn;have ol:∀b ob,X.s₀.heap.get? b=some ob->b≠X.env.locals:=λb ob g=>Jl (Jg (Heap.lt_size g) I.ok.above);refine h _ ⟨I.ok,I.os,I.bare,⟨λb ob g z hb hx=>(sb.2 b (ol b ob g)).trans (I.base.keep b ob g z hb hx),λb ob g z hb hx=>?_,I.base.free,λb ob g hx=>?_,I.base.tups,I.base.frzs,I.base.tbls⟩,
  ⟨_,hn',λj y v' e1 e2 e3=>?_⟩,λy c e=>?_,I.free,I.freeC,λp hp=>?_,λb w g=>?_,by simpa using I.len⟩
 ·obtain⟨sl,g1⟩:=I.base.slot b ob g z hb hx;exact⟨sl,(sb.2 b (ol b ob g)).trans g1⟩
 ·obtain⟨o',g1⟩:=I.base.there b ob g hx;exact⟨o',(sb.2 b (ol b ob g)).trans g1⟩
 ·have hj:j≠i:=λz=>by
   subst z;have:j < σ.length:=by rw[I.len];exact(List.getElem?_eq_some_iff.mp hi).1
   rw[List.getElem?_set_self this] at e2;cases e2
  rw[List.getElem?_set_ne (Ne.symm hj)] at e2;obtain⟨u',r',q⟩:=hl j y v' e1 e2 e3;refine⟨u',r',?_⟩;rcases q with ⟨k,e⟩ | ⟨k,c,e,z⟩
  ·refine .inl ⟨k,?_⟩;have:y≠n:=λz=>hj (zf2 hN e1 (z ▸ hi));show(if y=n then v else m y)=some u';rw[if_neg this];exact e
  ·exact .inr ⟨k,c,e,z.sameBut sb (I.cne y c e)⟩
 ·obtain⟨w',z⟩:=I.cell y c e;exact⟨w',z.sameBut sb (I.cne y c e)⟩
 ·obtain⟨g,z,ne,nf,d⟩:=I.pin p hp;exact⟨(sb.2 p.1 ne).trans g,z,ne,nf,d⟩
 ·refine(I.hok b w g).stay (λc v2 hc q=>(sb.2 c λz=>?_).trans q) (λ_ q=>q) λ_ _ q=>q;subst z;rcases hc with y | y
  ·rw[<-y,I.free] at g;cases g
  ·rw[I.free] at y;cases y
end
def Ends.less (D:Ends)(i:Nat):Ends:={nx:=fun σ H=>D.nx (σ.set i none) H,rt:=D.rt,bk:=fun σ H=>D.bk (σ.set i none) H,ct:=fun σ H=>D.ct (σ.set i none) H}
def zld (K:QA)(cv:Value)(i:Nat)(ts:TS)(D:Ends):St->XK:=fun σ cls od H'=>∃C,cls=.ref C/\PySem.W.exmOne K (.ref C) cv=some true/\
 ∀e,H' e=none->ts (D.less i) (σ.set i (some (.ref e))) (upd H' e (exO e C od false))
def znC (K:QA)(cv:Value)(ts:TS)(D:Ends):St->XK:=fun σ cls od H'=>∃C,cls=.ref C/\PySem.W.exmOne K (.ref C) cv=some true/\
 ∀e,H' e=none->ts D σ (upd H' e (exO e C od false))
def zqM (K:QA)(cv:Value)(i:Nat)(tb:(St->XK)->TS)(ts:TS):TS:=λD σ H=>tb (zld K cv i ts D) D σ H
def zrx (K:QA)(cv:Value)(tb:(St->XK)->TS)(ts:TS):TS:=λD σ H=>tb (znC K cv ts D) D σ H
def _root_.Px.Chg2.mono {fs:QO}{own own':Addr->Prop}{h h':Heap}(c:Chg2 fs own h h')(k:∀b,own b->own' b):Chg2 fs own' h h':=
 ⟨c.size,λb o q a n=>c.keep b o q a λz=>n (k b z),λb o q a n=>c.slot b o q a λz=>n (k b z)⟩
section
variable {X:Cx}{x n:Str}{i:Nat}{cv:Value}{body suite:List Stmt}{b₀:Stmt}{np hpos pos:Pos}{tb:(St->XK)->TS}{ts:TS}
def Inv.caught {pins:QE}{σ:St}{H H':Hp}{s s2:Shared}{h4:Heap}{ea C T T':Addr}{od:QM}(J0:Inv X pins σ H s)(os:s2.os=s.os)(bare:AllBare s2.gens)(un:Un (frs X.stack) [] H H' s.heap s2.heap)(hok:HOk X.prog X.w H' s2.heap)
  (old:s.heap.get? ea=none\/H ea≠none) (nT:s.heap.get? T=none) (u1:H' ea=none) (u2:H' T=none) (z:s2.heap.objs.size<=T') (c:Chg2 (frs X.stack) (λb=>b=ea\/b=T\/b=T') s2.heap h4) (tb:Tb h4 ea (.ref C) od T' .none):
  Inv X pins σ (upd H' ea (exO ea C od false)) {s2 with heap:=h4}:=by
 obtain⟨oe,vs,oT,tz,ge,e1,e2,e3,_⟩:=tb;have ge':h4.get? ea=some ⟨.ref C,od,.fields vs,oe.slots⟩:=by obtain⟨c0,d0,dt,sl⟩:=oe;dsimp only at e1 e2 e3;subst e1;subst e2;subst e3;exact ge
 have nT2:s2.heap.get? T'=none:=Heap.get?_none_of_le z;have fr2:∀b∈frs X.stack,H' b=none:=λb hb=>by have J:=J0.call' os un hok bare (λb z=>nomatch z);exact J.stkFree b hb
 have u3:H' T'=none:=hok.fresh z;have U:Un (frs X.stack) [] H H' s.heap h4:=un.chg c (λb ob _ y=>y) λb y=>by
  rcases y with y | y | y
  ·subst y;rcases old with y | y
   ·exact .inl y
   ·exact .inr ⟨y,⟨_,ge⟩⟩
  ·subst y;exact .inl nT
  ·subst y;exact .inl (zcI un (by intro z;cases z) nT2)
 have O:HOk X.prog X.w H' h4:=hok.chg c (λb y=>by
  rcases y with y | y | y
  ·rw[y];exact u1
  ·rw[y];exact u2
  ·rw[y];exact u3) fr2
 refine J0.call' (s':={s2 with heap:=h4}) os (U.track u1 λob q=>.inr ?_) (O.track u1 (zh5 ge' λz=>by cases z)) bare (λb z=>nomatch z);rcases old with y | y
 ·rw[y] at q;cases q
 ·exact y
def znV (hst:X.stack=X.env::X.outer)(hfm:X.env.frame=some X.env.locals)(hN:X.N.Nodup)(hi:X.N[i]? =some n)(hlo:X.env.scope.names.lookup n=some .local)(hg:Gl X x)(hm:X.mg x=some cv)
  (hb:∀xe pn E,zbp (CX1 X.prog X.w) (X.tried xe pn) E->PSs (X.tried xe pn) body (tb E)) (hs:∀e,PSs (X.suite e) (b₀::suite) ts) (hdb:(x==("__debug__" :Str))=false:=by decide):
  PS X (.Try body [.ExceptHandler (some (.Name x np)) (some n) (b₀::suite) hpos] [] [] pos) (zqM X.K cv i tb ts):=by
 intro pins s σ H D I h;have key:zbp (CX1 X.prog X.w) (X.tried (λe s₁=>wpAny (model X.prog X.w) X.A (noteFrame e X.env) (λ_ s₂=>wpAny (model X.prog X.w) X.A (setFlight e none) (λ_ s₃=>
   wpAny (model X.prog X.w) X.A (handleBy e X.env [.ExceptHandler (some (.Name x np)) (some n) (b₀::suite) hpos]) (SP X pins D) X.xe s₃) X.xe s₂) X.xe s₁) (X.pn++pins)) (zld X.K cv i ts D):=by
  intro pins' σ' H1 s1 e s2 I1 hc;obtain⟨ea,cls,od,H',T,rfl,os,bare,un,hok,tb',old,nT,u1,u2,C,rfl,em,q⟩:=hc;have J0:Inv X pins σ' H1 s1:=I1.untried;have J:=J0.call' os un hok bare (λb z=>nomatch z);show wpAny _ _ (noteFrame (.ref ea) X.env) _ _ s2;refine znG (base:=X.base) (by rw[<-hst];exact J.ok.frames) (by rw[<-hst];exact J.stack) hfm tb' λh3 T' z t3 c3=>?_;rw[show(X.env::X.outer).filterMap (·.frame)=frs X.stack from by rw[hst];rfl] at c3;have c3':Chg2 (frs X.stack) (λb=>b=ea\/b=T\/b=T') s2.heap h3:=c3.mono λb y=>y.elim .inl λy=>.inr (.inl y);have J3:=J0.caught os bare un hok old nT u1 u2 z c3' t3;have LT:PySem.W.Looks (model X.prog X.w) h3 (typeOf (.ref ea)) (.ref C):=by obtain⟨vs,sl,ge,_⟩:=zct J3.hok zg;exact(PySem.W.Looks.ld ge).andThen .now
  refine wpAny_handleBy_cons (codeAny_handlers_test (zba (X:=X.suite ea) (J3.suite ea) hg hm ?_ hdb)) (by intro y;cases y);refine(PySem.W.exm_one J3.kIn LT em).here (s:={s2 with heap:=h3}) ?_;refine codeAny_handlers_suite_as ?_;refine zdZ (s:={s2 with heap:=h3}) (fs:=frs X.stack) t3 λh4 t4 c4 k4=>?_;have J4:=J0.caught os bare un hok old nT u1 u2 z (c3'.trans (c4.two (own:=λb=>b=ea\/b=T\/b=T') (.inl rfl) (.inl (.inr (.inr rfl))))) t4;refine zfY (X:=X) J4 hN hi (.inl hlo) (show RelV (.ref ea) (Value.ref ea) from rfl) (λs5 J5=>?_) (.inr hlo);refine wpAny_mono (hs ea pins s5 _ _ (D.less i) (J5.suite ea) (q ea u1)) (λf s6 q6=>?_) λ_ _ y=>y.elim;show wpAny _ _ _ _ _ _;cases f with
  | next=>obtain⟨σ6,H6,J6,y⟩:=q6;exact zdJ (J6.unsuite J0.ok) hN hi hlo λs7 J7=>⟨_,_,J7,y⟩
  | brk=>obtain⟨σ6,H6,J6,y⟩:=q6;exact zdJ (J6.unsuite J0.ok) hN hi hlo λs7 J7=>⟨_,_,J7,y⟩
  | cont=>obtain⟨σ6,H6,J6,y⟩:=q6;exact zdJ (J6.unsuite J0.ok) hN hi hlo λs7 J7=>⟨_,_,J7,y⟩
  | ret u=>obtain⟨v6,σ6,H6,J6,rv,y⟩:=q6;exact zdJ (J6.unsuite J0.ok) hN hi hlo λs7 J7=>⟨_,_,_,J7,rv,y⟩
 refine wpAny_Try_except (wpAny_mono (hb _ (X.pn++pins) _ key [] s σ H D (I.tried _) h) (λf s₁ q=>?_) λ_ _ y=>y);cases f with
 | next=>obtain⟨σ',H',I',y⟩:=q;exact wpAny_execs_nil ⟨σ',H',I'.untried,y⟩
 | brk=>obtain⟨σ',H',I',y⟩:=q;exact⟨σ',H',I'.untried,y⟩
 | cont=>obtain⟨σ',H',I',y⟩:=q;exact⟨σ',H',I'.untried,y⟩
 | ret u=>obtain⟨v,σ',H',I',rv,y⟩:=q;exact⟨v,σ',H',I'.untried,rv,y⟩
end
end L2
namespace L2
open PySem PySem.Spec PyProof.Rows
def cxC (X:Cx)(N:QP)(scope:Scope)(cl:List (Str ×Addr))(s₀:Shared)(H₀:Hp)(ex:QO):Cx:=
 {X with N:=N,s₀:=s₀,H₀:=H₀,env:=compEnvC scope cl s₀.heap.objs.size X.env,outer:=X.stack,ex:=ex,fn:=λ_=>false,pn:=[],xe:=λ_ _=>False}
structure zV (X:Cx)(x:Str)(ys:QP)(js:List Nat)(scope:Scope)(cl:List (Str ×Addr)):Prop where
 clos:closureFor scope X.env=pure cl
 kind:scope.kind=.function
 nocell:∀y∈scope.names,y.2≠ .cell
 names:∀y∈scope.names,y.2=.local->scope.names.lookup y.1=some .local
 tgt:scope.names.lookup x=some .local
 nd:(x::ys).Nodup
 sub:∀p∈cl,X.env.cells.lookup p.1=some p.2
 has:∀p∈(relabel scope X.env).names,p.2=.cell\/p.2=.free->p.1∈cl.map (·.1)
 fr:∀(i:Nat) (y:Str),ys[i]? =some y->∃j,js[i]? =some j/\X.N[j]? =some y/\(X.env.kindOf y=some .cell\/X.env.kindOf y=some .free)/\((relabel scope X.env).names.lookup y=some .cell\/(relabel scope X.env).names.lookup y=some .free)
 len:js.length=ys.length
def zcC {cl:List (Str ×Addr)}:∀{y:Str},y∈cl.map (·.1)->∃c,cl.lookup y=some c:=by
 induction cl with
 | nil=>intro y h;simp at h
 | cons p r ih=>
  intro y h;rw[List.lookup_cons];cases e:y==p.1 with
  | true=>exact⟨p.2,rfl⟩
  | false=>
   rw[List.map_cons,List.mem_cons] at h;rcases h with h | h
   ·rw[h] at e;simp at e
   ·exact ih h
def PTs (X:Cx)(ifs:List Expr)(t:TT):Prop:=
 ∀(pins:QE) (s:Shared) (σ:St) (H:Hp) (Q:Bool->Hp->Prop),Inv X pins σ H s->t σ H Q->
  wpAny (model X.prog X.w) X.A (forIn ifs true λc r=>if r=true then do let ok<-isTrue c X.env (eval c X.env);pure (ForInStep.yield ok) else pure (ForInStep.yield r)) (TP X pins σ Q) X.xe s
def zlj:TT:=λ_ H Q=>Q true H
def zeg {X:Cx}:PTs X [] zlj:=λ_ _ _ H _ I h=>wpAny_tests_nil ⟨H,I,h⟩
def zph {X:Cx}{c:Expr}{t:TT}(h:PT X c t):PTs X [c] t:=λpins s σ H Q I q=>wpAny_tests_one (h pins s σ H Q I q)
def frees (σ:St)(js:List Nat):St:=js.map λj=>(σ[j]?).getD none
def zkU (J:It)(p:Addr)(σ:St)(js:List Nat)(tt:TT)(te:TE)(H1:Hp)(Q:VK):Prop:=
 ∃W:Nat->Nat->List V->Hp->Prop,(∃m,W 0 m [] (upd H1 p (.lst [])))/\∀i m acc H,W i m acc H->
  (J.stop i H/\Q (.ref p) H)\/(J.go i H/\∀x H',J.yld i H x H'->tt (some x::frees σ js) H' λok H2=>
   if ok=true then te (some x::frees σ js) H2 λy H3=>H3 p=some (.lst acc)/\acc.length < sizeLine/\∃m',m' < m/\W (i+1) m' (acc++ [y]) (upd H3 p (.lst (acc++ [y])))
   else∃m',m' < m/\W (i+1) m' acc H2)
def zpT (wi:TI)(js:List Nat)(tt:TT)(te:TE):TE:=fun σ H Q=>wi σ H λJ H1=>∀p,H1 p=none->zkU J p σ js tt te H1 Q
section
variable {X:Cx}{x:Str}{ys:QP}{js:List Nat}{scope:Scope}{cl:List (Str ×Addr)}{pins:QE}{σ:St}{H:Hp}{s:Shared}
def zV.cells (S:zV X x ys js scope cl){y:Str}{c:Addr}(h:cl.lookup y=some c):X.env.cells.lookup y=some c:=S.sub (y,c) (PySem.mem_of_lookup h)
def zoV (S:zV X x ys js scope cl)(I:Inv X pins σ H s){fp:QO}(f:∀b∈fp,FpOk X pins H b)(fo:∀b∈fp,b < s.heap.objs.size){h1:Heap}{m:QB}{t1:Nat}(hn:h1.Ns s.heap.objs.size m)
  (k:∀b o,s.heap.get? b=some o->h1.get? b=some o):
  Inv (cxC X (x::ys) scope cl s H fp) (X.pn++pins) (none::frees σ js) H {s with heap:=h1,toks:=t1}:=by
 have nfs:∀b∈fp,b∉frs X.stack:=λb hb z=>(List.mem_cons.mp (I.stkSub b z)).elim (f b hb).2.1 (f b hb).2.2.1;have kept:∀y c,cl.lookup y=some c->∀v,s.heap.IsCell c v->h1.IsCell c v:=λy c _ v ⟨o,ho,hd⟩=>⟨o,k c o ho,hd⟩;refine⟨⟨I.ok.mod,S.kind,I.ok.glob,I.ok.blt,Jb _,λy z c e1 e2=>I.ok.inj y z c (S.cells e1) (S.cells e2),λy hy=>?_,λy c e _=>Jh e Jf,I.ok.hd,I.ok.frames,.inl rfl,λb hb=>⟨?_,λy c e=>(f b hb).2.2.2.2.1 y c (S.cells e)⟩,
   I.bs,Jk I.ok.bsz I.sz,λb o e hb=>?_,nfs,I.stack,I.stkFree⟩,
  I.os.trans ?_,I.bare,Un.kept k,⟨m,hn,λi y v e1 e2 e3=>?_⟩,λy c e=>?_,I.hok.fresh (Jb _),λy c e=>I.freeC y c (S.cells e),λp hp=>?_,I.hok.kept k,?_⟩
 ·rcases hy with hy | hy
  ·exact zcC (S.has _ (PySem.mem_of_lookup hy) (.inl rfl))
  ·exact zcC (S.has _ (PySem.mem_of_lookup hy) (.inr rfl))
 ·exact Jl (fo b hb)
 ·rcases(f b hb).2.2.2.1 with z | z
  ·exact I.ok.noex b o e z
  ·exact Jh (Jg (Heap.lt_size e) (Jk I.ok.bsz z)) (Jw _)
 ·exact I.os.symm
 ·cases i with
  | zero=>cases e2
  | succ i=>
   obtain⟨j,ej,eN,ek,ek'⟩:=S.fr i y e1;have es:σ[j]? =some (some v):=by
    have q:(frees σ js)[i]? =some (some v):=e2;unfold frees at q;rw[List.getElem?_map,ej] at q;have q':(σ[j]?).getD none=some v:=Option.some.inj q;cases e:σ[j]? with
    | none=>rw[e] at q';cases q'
    | some o=>rw[e] at q';cases q';rfl
   obtain⟨m0,_,hl⟩:=I.loc;obtain⟨u,r,l⟩:=hl j y v eN es (.inr ek);rcases l with ⟨l,_⟩ | ⟨_,c,ec,hc⟩
   ·rcases ek with ek | ek <;> · rw[ek] at l;cases l
   ·have hk:y∈cl.map (·.1):=by
     rcases ek' with q | q
     ·exact S.has _ (PySem.mem_of_lookup q) (.inl rfl)
     ·exact S.has _ (PySem.mem_of_lookup q) (.inr rfl)
    obtain⟨c',ec'⟩:=zcC hk;have e:=S.cells ec';rw[ec] at e;cases e;exact⟨u,r,.inr ⟨ek',c,ec',kept y c ec' _ hc⟩⟩
 ·obtain⟨v,q⟩:=I.cell y c (S.cells e);exact⟨v,kept y c e v q⟩
 ·have hp':p∈X.pn++pins:=(List.mem_append.mp hp).elim (λz=>Jh (show p∈([]:QE) from z) (by simp)) id;obtain⟨a,b,c,d,e⟩:=I.pin p hp';exact⟨k _ _ a,b,Jl (Heap.lt_size a),λz=>(List.mem_cons.mp (I.stkSub _ z)).elim c d,e⟩
 ·show _=(x::ys).length;rw[List.length_cons,List.length_cons];unfold frees;rw[List.length_map,S.len]
def zm6 {H1:Hp}{s1:Shared}{σ':St}{pins':QE}{s0:Shared}{H0:Hp}(I:Inv X pins σ H0 s0){fp:QO}(f:∀b∈fp,FpOk X pins H0 b)(U0:Un (frs X.stack) fp H0 H s0.heap s.heap)(ho:s.os=s0.os)
  (J:Inv (cxC X (x::ys) scope cl s H fp) pins' σ' H1 s1):Inv X pins σ H1 s1:=by
 have U1:Un (frs X.stack) fp H H1 s.heap s1.heap:=J.base;exact I.call' (J.os.trans ho) (U0.trans U1) J.hok J.bare λb hb=>⟨(f b hb).2.2.2.1,(f b hb).2.1,(f b hb).2.2.2.2.1,(f b hb).2.2.2.2.2⟩
variable {iter elt:Expr}{ifs:List Expr}{px pos:Pos}{wi:TI}{tt:TT}{te:TE}
def ziT (S:zV X x ys js scope cl)(hc:X.calm=true)(ht:∀s₀ H₀ ex,PTs (cxC X (x::ys) scope cl s₀ H₀ ex) ifs tt)(he:∀s₀ H₀ ex,PE (cxC X (x::ys) scope cl s₀ H₀ ex) elt te)
  {s2:Shared} {H2:Hp} {it:Addr} {fp:QO} {tn:Nat->Heap->Prop} {J:It} (I2:Inv X pins σ H2 s2) (T:Turn X.prog X.w X.K (.Name x px) J fp it tn) (st2:tn 0 s2.heap) (f2:∀b∈fp,FpOk X pins H2 b)
  {Q:VK} (q:∀p,H2 p=none->zkU J p σ js tt te H2 Q)
  {R:Value->Addr->Result->Shared->Prop}
  (hR:∀(p:Addr) (C:Addr) (H':Hp) (s':Shared) (m:QB),s2.heap.objs.size<=C->s'.heap.Ns C m->H' C=none->Inv X pins σ H' s'->Q (.ref p) H'->R (.ref p) C (.ok .next) s'):
  wpAny (model X.prog X.w) X.A (newList []) (λacc s₃=>wpAny (model X.prog X.w) X.A (newFunctionEnv scope X.env.globals cl [] X.env.qual none .none (some X.env)) (λcenv s₄=>
   codeAny (model X.prog X.w) X.A (.compStart (.ListComp elt [⟨.Name x px,iter,ifs,0⟩] scope pos) 0 (.ref it) acc {cenv with scope:=relabel scope X.env}) (R acc cenv.locals) s₄) X.xe s₃) X.xe s2:=by
 refine wpAny_newObj_type (wpAny_newFunctionEnv S.nocell (by intro y hy;simp at hy) (λh₁ hns₁ hsb₁=>?_) S.kind);have fr2:H2 s2.heap.objs.size=none:=I2.hok.fresh (Jb _);obtain⟨W,⟨m0,w0⟩,turn⟩:=q _ fr2;have I3:Inv X pins σ (upd H2 s2.heap.objs.size (.lst [])) {s2 with heap:=s2.heap.push {cls:=.type "list",dict:=none,data:=.seq ([]:QN).toArray}}:=
  I2.laid (t':=s2.toks) (λb u e=>Heap.get?_push_of_some _ e) (Jb _) ⟨Nat.zero_le _,[],0,.nil,Heap.get?_push_size _ rfl⟩
 have U0:Un (frs X.stack) fp H2 (upd H2 s2.heap.objs.size (.lst [])) s2.heap (s2.heap.push {cls:=.type "list",dict:=none,data:=.seq ([]:QN).toArray}):=
  Un.laid (λb u e=>Heap.get?_push_of_some _ e) (Jb _) fr2
 have fo:∀b∈fp,b < s2.heap.objs.size:=λb hb=>by obtain⟨o,e,_⟩:=T.obj 0 _ st2 b hb;exact Heap.lt_size e
 have f3:∀b∈fp,FpOk X pins (upd H2 s2.heap.objs.size (.lst [])) b:=λb hb=>⟨by rw[zk (Jl (fo b hb))];exact(f2 b hb).1,(f2 b hb).2⟩
 have hold:∀b o,(s2.heap.push {cls:=.type "list",dict:=none,data:=.seq ([]:QN).toArray}).get? b=some o->h₁.get? b=some o:=λb o e=>
  hsb₁.extBut b o (Jl (Heap.lt_size e)) (Heap.get?_push_of_some _ e)
 have fo3:∀b∈fp,b < (s2.heap.push {cls:=.type "list",dict:=none,data:=.seq ([]:QN).toArray}).objs.size:=λb hb=>by rw[Heap.size_push];exact Nat.lt_succ_of_lt (fo b hb)
 have I4:=zoV (t1:=s2.toks+([]:QK).length) S I3 f3 fo3 hns₁ hold;have st4:tn 0 h₁:=T.keep _ _ _ st2 λb _ o e=>hold b o (Heap.get?_push_of_some _ e);have stat:∀{H':Hp},(∀b∈fp,H' b=none)->∀b∈fp,FpOk (cxC X (x::ys) scope cl {s2 with heap:=s2.heap.push {cls:=.type "list",dict:=none,data:=.seq ([]:QN).toArray}} (upd H2 s2.heap.objs.size (.lst [])) fp) (X.pn++pins) H' b:=λhn b hb=>
  ⟨hn b hb,Jl (fo3 b hb),I4.ok.exfs b hb,.inl hb,λy c e=>(f2 b hb).2.2.2.2.1 y c (S.cells e),λp hp=>(f2 b hb).2.2.2.2.2 p ((List.mem_append.mp hp).elim (λz=>Jh (show p∈([]:QE) from z) (by simp)) id)⟩
 have loop:codeAny (model X.prog X.w) X.A (.compLoop (.ListComp elt [⟨.Name x px,iter,ifs,0⟩] scope pos) 0 (.ref it) (.ref s2.heap.objs.size) (compEnvC scope cl (s2.heap.push {cls:=.type "list",dict:=none,data:=.seq ([]:QN).toArray}).objs.size X.env))
   (R (.ref s2.heap.objs.size) (s2.heap.push {cls:=.type "list",dict:=none,data:=.seq ([]:QN).toArray}).objs.size) {s2 with heap:=h₁,toks:=s2.toks+([]:QK).length}:=by
  refine codeAny_loop rfl (λn s'=>∃i acc v0 H',Inv (cxC X (x::ys) scope cl {s2 with heap:=s2.heap.push {cls:=.type "list",dict:=none,data:=.seq ([]:QN).toArray}} (upd H2 s2.heap.objs.size (.lst [])) fp) (X.pn++pins) (v0::frees σ js) H' s'/\tn i s'.heap/\(∀b∈fp,H' b=none)/\W i n acc H')
   (λn s5 hI=>?_) m0 ⟨0,[],none,_,I4,st4,λb hb=>(f3 b hb).1,w0⟩
  show wpAny _ X.A ((compTurn (.ListComp elt [⟨.Name x px,iter,ifs,0⟩] scope pos) 0 (.ref it) (.ref s2.heap.objs.size) (compEnvC scope cl (s2.heap.push {cls:=.type "list",dict:=none,data:=.seq ([]:QN).toArray}).objs.size X.env)).onRaise (λx=>do noteFrame x (compEnvC scope cl (s2.heap.push {cls:=.type "list",dict:=none,data:=.seq ([]:QN).toArray}).objs.size X.env);theTreesLotGoes x)) _ _ s5;refine wpAny_noted ?_;rw[compTurn_list];obtain⟨i,acc,v0,H5,I5,st5,fr5,w5⟩:=hI;refine Ja (wpAny_standAt (Ja ?_));rcases turn i n acc H5 w5 with ⟨stop,qn⟩ | ⟨go,step⟩
  ·refine wpAny_mono (T.done (cxC X (x::ys) scope cl {s2 with heap:=s2.heap.push {cls:=.type "list",dict:=none,data:=.seq ([]:QN).toArray}} (upd H2 s2.heap.objs.size (.lst [])) fp) rfl rfl rfl hc i _ s5 _ H5 _ I5 (stat fr5) st5 stop) (λr s6 ⟨hr,I6⟩=>?_) λ_ _ e=>e;subst hr;obtain⟨m,hn,_⟩:=I6.loc;exact wpAny_pure (hR _ _ H5 s6 m (by rw[Heap.size_push];exact Nat.le_succ _) hn I6.free (zm6 I2 f2 U0 (by rfl) I6) qn)
  ·refine wpAny_mono (T.item (cxC X (x::ys) scope cl {s2 with heap:=s2.heap.push {cls:=.type "list",dict:=none,data:=.seq ([]:QN).toArray}} (upd H2 s2.heap.objs.size (.lst [])) fp) rfl rfl rfl hc i _ s5 _ H5 _ I5 (stat fr5) st5 go) (λr s6 ⟨u,hr,h6⟩=>?_) λ_ _ e=>e;subst hr;refine Ja (wpAny_mono h6 (λ_ s7 ⟨v,H7,I7,r7,y7,st7,fr7⟩=>?_) λ_ _ e=>e);have I7':=I7.pinned (stat fr7) (T.obj _ _ st7);have G:PG (cxC X (x::ys) scope cl {s2 with heap:=s2.heap.push {cls:=.type "list",dict:=none,data:=.seq ([]:QN).toArray}} (upd H2 s2.heap.objs.size (.lst [])) fp) (.Name x px) (zdR 0):=
    zZ S.nd rfl (.inl (lookup_relabel_local S.tgt)) (.inr (lookup_relabel_local S.tgt))
   refine Ja (wpAny_mono (G _ s7 _ H7 v u (fun σ8 H8=>σ8=some v::frees σ js/\H8=H7) I7' r7 ⟨rfl,rfl⟩) (λ_ s8 ⟨σ8,H8,I8,e8,e8'⟩=>?_) λ_ _ e=>e.elim);subst e8 e8';refine Ja (wpAny_mono (ht _ _ _ _ s8 _ _ _ I8 (step v _ y7)) (λok s9 ⟨H9,I9,q9⟩=>?_) λ_ _ e=>e.elim);have again:∀{acc':QQ} {H10:Hp} {s10:Shared},Inv (cxC X (x::ys) scope cl {s2 with heap:=s2.heap.push {cls:=.type "list",dict:=none,data:=.seq ([]:QN).toArray}} (upd H2 s2.heap.objs.size (.lst [])) fp) (X.pn++pins++zf7 fp s7.heap) (some v::frees σ js) H10 s10->
     (∃m',m' < n/\W (i+1) m' acc' H10)->∃m,m < n/\∃i acc v0 H',Inv (cxC X (x::ys) scope cl {s2 with heap:=s2.heap.push {cls:=.type "list",dict:=none,data:=.seq ([]:QN).toArray}} (upd H2 s2.heap.objs.size (.lst [])) fp) (X.pn++pins) (v0::frees σ js) H' s10/\tn i s10.heap/\(∀b∈fp,H' b=none)/\W i m acc H':=λ{acc' H10 s10} I10 ⟨m',hm,w10⟩=>by
    refine⟨m',hm,i+1,acc',some v,H10,I10.unpinned,T.keep _ _ _ st7 λb hb o e=>(I10.pin (b,o) (Jj _ (Jj _ (zcV hb e)))).1,λb hb=>?_,w10⟩;obtain⟨o,e,d⟩:=T.obj _ _ st7 b hb;exact(I10.pin (b,o) (Jj _ (Jj _ (zcV hb e)))).2.1
   cases ok with
   | false=>rw[if_neg Jf] at q9;exact wpAny_pure ⟨rfl,again I9 q9⟩
   | true=>
    rw[if_pos rfl] at q9;refine Ja (Ja (wpAny_mono (he _ _ _ _ s9 _ _ _ I9 q9) (λy s10 ⟨z,H10,I10,r10,e10,l10,w10⟩=>?_) λ_ _ e=>e.elim));refine Ja (wpAny_mono (zca (X:=cxC X (x::ys) scope cl {s2 with heap:=s2.heap.push {cls:=.type "list",dict:=none,data:=.seq ([]:QN).toArray}} (upd H2 s2.heap.objs.size (.lst [])) fp) _ s10 _ H10 (.ref s2.heap.objs.size) [z] (.ref s2.heap.objs.size) [y] (λ_ H'=>H'=upd H10 s2.heap.objs.size (.lst (acc++ [z]))) I10 rfl (.cons r10 .nil) ⟨_,acc,z,rfl,rfl,e10,l10,rfl⟩)
     (λ_ s11 ⟨_,H11,I11,_,e11⟩=>?_) λ_ _ e=>e.elim)
    subst e11;exact wpAny_pure (wpAny_pure ⟨rfl,again I11 w10⟩)
 exact codeAny_compStart_list loop (T.self _ 0 _ _ _ st4 loop)
def zgD (S:zV X x ys js scope cl)(hc:X.calm=true)(hi:PI X (.Name x px) iter wi)(ht:∀s₀ H₀ ex,PTs (cxC X (x::ys) scope cl s₀ H₀ ex) ifs tt)(he:∀s₀ H₀ ex,PE (cxC X (x::ys) scope cl s₀ H₀ ex) elt te)
  (hs:∀x,foldedSetIterable iter X.env x=pure x:=by intro _;rfl):PE X (.ListComp elt [⟨.Name x px,iter,ifs,0⟩] scope pos) (zpT wi js tt te):=by
 intro pins s σ H Q I h;rw[eval_ListComp];refine wpAny_comprehension_free (use:=none) rfl hs S.clos S.kind S.names (thn (hi pins s σ H _ I h) λv s1 h1=>thn h1 λitv s2 h2=>?_);obtain⟨it,fp,tn,J,H2,e,I2,T,st2,f2,q⟩:=h2;subst e;refine ziT (Q:=Q) (R:=λacc C=>compPost (model X.prog X.w) X.A X.xe none (EP X pins σ Q) acc C) S hc ht he I2 T st2 f2 q λp C H' s' m hC hn hf I' q'=>?_;refine⟨m,hn,λh' hb=>⟨.ref p,H',?_,rfl,q'⟩⟩;exact I'.turned (it:=C) (t':=s'.toks) (λb o hne e=>hb.extBut b o hne e) hf (Nat.ne_of_gt (Jg I2.lt hC)) (.inr (Jk I2.sz hC))
  (λy c e z=>by obtain⟨v,w⟩:=I2.cell y c e;subst z;exact Jw _ (Jg w.lt hC)) λp hp z=>by have q:=Heap.lt_size (I2.pin p hp).1;rw[z] at q;exact Jw _ (Jg q hC)
def zgM {i:Nat}{y:Str}{py spos:Pos}(S:zV X x ys js scope cl)(hc:X.calm=true)(hi:PI X (.Name x px) iter wi)(ht:∀s₀ H₀ ex,PTs (cxC X (x::ys) scope cl s₀ H₀ ex) ifs tt)(he:∀s₀ H₀ ex,PE (cxC X (x::ys) scope cl s₀ H₀ ex) elt te)
  (hN:X.N.Nodup) (hy:X.N[i]? =some y) (hx:Loc X.env.scope y) (hsw:swapsWith (.ListComp elt [⟨.Name x px,iter,ifs,0⟩] scope pos) (some (.Name y py)) spos.line X.env=pure true)
  (hf:X.fn y=true\/X.env.scope.names.lookup y=some .local:=by first | exact .inl rfl | exact .inr rfl | assumption)
  (hs:∀x,foldedSetIterable iter X.env x=pure x:=by intro _;rfl):PS X (.Assign [.Name y py] (.ListComp elt [⟨.Name x px,iter,ifs,0⟩] scope pos) spos) (tAsg (zpT wi js tt te) (zdR i)):=by
 intro pins s σ H D I h;rw[exec_Assign_Name_used _ _ _ _ hsw];refine Ja (wpAny_standAt (Ja ?_));show wpAny _ X.A (do let _<-comprehension (.ListComp elt [⟨.Name x px,iter,ifs,0⟩] scope pos) scope X.env _ (newList []) false (eval iter X.env) (some (assign (.Name y py) X.env))) _ _ s;refine Ja (wpAny_mono (wpAny_comprehension_free (use:=some (assign (.Name y py) X.env)) (Q:=λ_ s'=>SP X pins D .next s') rfl hs S.clos S.kind S.names
  (thn (hi pins s σ H _ I h) λv s1 h1=>thn h1 λitv s2 h2=>?_)) (λ_ s' hq=>wpAny_pure (wpAny_pure hq)) λ_ _ e=>e)
 obtain⟨it,fp,tn,J,H2,e,I2,T,st2,f2,q⟩:=h2;subst e;refine ziT (Q:=λx H1=>zdR i x σ H1 D.nx) (R:=λacc C=>compPost (model X.prog X.w) X.A X.xe (some (assign (.Name y py) X.env)) (λ_ s'=>SP X pins D .next s') acc C) S hc ht he I2 T st2 f2 q λp C H' s' m hC hn hf' I' q'=>?_;have neL:C≠X.env.locals:=Nat.ne_of_gt (Jg I2.lt hC);have nfs:C∉X.fs:=I2.nofs hC;have hn0:=hn;obtain⟨o,es,ep,ho,hd,r⟩:=hn;have Ip:Inv X (pins++ [(C,o)]) σ H' s':=I'.pins_of λp hp=>(List.mem_append.mp hp).elim (λz=>I'.pin p (Jj _ z)) λz=>by
  have e:p=(C,o):=by simpa using z
  subst e;exact⟨ho,hf',neL,nfs,λv w=>by rw[hd] at w;cases w⟩
 show wpAny _ _ (assign (.Name y py) X.env (.ref p)) _ _ s';refine thn (zZ (pos:=py) hN hy hx hf _ s' σ H' (.ref p) (.ref p) _ Ip rfl q') λ_ s'' ⟨σ8,H8,I8,q8⟩=>?_;have pc:=I8.pin (C,o) (Jj _ (Jj _ (by simp)));refine⟨m,⟨o,es,ep,pc.1,hd,r⟩,λh' hb=>⟨σ8,H8,?_,q8⟩⟩;have I9:Inv X pins σ8 H8 s'':=I8.pins_of λp hp=>I8.pin p (Jj _ (Jq _ hp));exact I9.turned (it:=C) (t':=s''.toks) (λb o hne e=>hb.extBut b o hne e) pc.2.1 neL (.inr (Jk I2.sz hC))
  (λy c e z=>by obtain⟨v,w⟩:=I2.cell y c e;subst z;exact Jw _ (Jg w.lt hC)) λp hp z=>by have q:=Heap.lt_size (I2.pin p hp).1;rw[z] at q;exact Jw _ (Jg q hC)
end
section
variable {X:Cx}
def znw (i j:Int):Prop:=0 < j/\j < 10 ^ 100
def znw.log {i j:Int}(h:znw i j):j.natAbs.log2 < 9000:=by
 have h1:j.natAbs < 10 ^ 100:=by have:=h.1;have:=h.2;omega
 have h2:j.natAbs < 2 ^ 400:=Nat.lt_trans h1 (by decide+kernel);have h3:j.natAbs≠0:=by have:=h.1;omega
 have:=(Nat.log2_lt h3).mpr h2;omega
noncomputable abbrev _root_.Jp:=@Int.le_of_lt
def zaA:OpR X (binaryOp .FloorDiv) (rI znw λi j=>.int (i / j)):=opI λi j _ _ _ _ _ hc q=>by rw[<-Int.fdiv_eq_ediv_of_nonneg i (Jp hc.1)] at q;exact floordiv_int (by have:=hc.1;omega) q (.inl (PyProof.noPylong_of_log2 hc.log))
def zrq (K:QA):List V->Hp->VK->Prop:=λxs H Q=>∃x T t b,xs=[x,.ty T]/\TyOf K H x t/\PySem.W.kitOne K t (.type T)=some b/\Q (.bl b) H
def zW:zbg X (.builtin "isinstance") (zrq X.K):=by intro pins s σ H xs us Q I r h;obtain⟨x,T,t,b,rfl,ty,e,q⟩:=h;obtain⟨u,w',rfl,ru,rw'⟩:=vals2 r;cases (show w'=Value.type T from rw');exact zlr I ru ty e λtk=>⟨.bl b,H,I.tok tk,rfl,q⟩
example (K:QA):PySem.W.kitOne K (.type "NoneType") (.type "int")=some false:=by rfl
example (K:QA):PySem.W.kitOne K (.type "int") (.type "int")=some true:=by rfl
example (K:QA):PySem.W.kitOne K (.type "tuple") (.type "str")=some false:=by rfl
example (K:QA):PySem.W.kitOne K (.type "bool") (.type "int")=some true:=by rfl
example (K:QA):PySem.W.kitOne K (.type "str") (.type "bool")=some false:=by rfl
def Its (x:Str):It:=⟨λi _=>i < x.cps.size,λi H v H'=>H'=H/\∃c,x.cps[i]? =some c/\v=.str ⟨#[c]⟩,λi _=>x.cps.size<=i⟩
def ziC {P:Program}{w:World}{K:QA}{tg:Expr}{x:Str}{it:Addr}{n:String}{t:Tok}(hn:["enumerate","zip","dict_itemiterator","dict_reverseitemiterator","odict_iterator","itertools.zip_longest","itertools.pairwise"].contains n=false)
  (W:∀A':Around,A'.handled=none->Walks P w A' it [it] [it] x.cps.size (SignAt x) (λi h=>h.IsStrIter it n x t i))
  (E0:∀(A':Around) (s:Shared) (Q:Option Value->Shared->Prop) (E:QC) (i:Nat),A'.handled=none->s.heap.IsStrIter it n x t i->x.cps.size<=i->(∀h',(∀b o,b≠it->s.heap.get? b=some o->h'.get? b=some o)->Q none {s with heap:=h'})->wpAny (model P w) A' (pyNext (.ref it)) Q E s)
  (S0:∀(A':Around) (s:Shared) (Q:QC) (E:QC) (i:Nat),s.heap.IsStrIter it n x t i->Q (.ref it) s->wpAny (model P w) A' (pyIter (.ref it)) Q E s):
  Turn P w K tg (Its x) [it] it (λi h=>h.IsStrIter it n x t i) where
 mem:=by simp
 obj:=λi h st b hb=>by
  have e:b=it:=by simpa using hb
  subst e;obtain⟨o,e,c,d⟩:=st;exact⟨o,e,λv z=>by rw[d] at z;cases z⟩
 keep:=λi h h' st k=>by obtain⟨o,e,r⟩:=st;exact⟨o,k it (by simp) o e,r⟩
 item:=by intro X hP hw hK hc i pins s σ H E I hf st hg;subst hP hw hK;obtain⟨f0,f1,f2,f3,f4,f5⟩:=hf it (by simp);refine(W X.A (I.ok.hd hc)).item i s _ _ hg st λv h' tk hv st' kk=>?_;obtain⟨c,u,hc',rfl⟩:=hv;have I1:Inv X pins σ H {s with heap:=h',toks:=tk}:=I.turned (λb o hb e=>kk b o (by simpa using hb) e) f0 f1 f3 f4 f5;obtain⟨o,e,cl,d⟩:=id st';exact⟨_,rfl,zho (s:={s with heap:=h',toks:=tk}) e cl d hn ⟨.str ⟨#[c]⟩,H,I1,⟨u,rfl⟩,⟨rfl,c,hc',rfl⟩,st',λb hb=>(hf b hb).1⟩⟩
 done:=by intro X hP hw hK hc i pins s σ H E I hf st hg;subst hP hw hK;obtain⟨f0,f1,f2,f3,f4,f5⟩:=hf it (by simp);exact E0 X.A s _ _ i (I.ok.hd hc) st hg λh' eb=>⟨rfl,I.turned (t':=s.toks) (λb o hb e=>eb b o hb e) f0 f1 f3 f4 f5⟩
 self:=λA i s Q E st h=>S0 A s Q E i st h
def iStr (tl:TE):TI:=fun σ H R=>tl σ H λx H1=>∃z,x=.str z/\R (Its z) H1
def zn5 {tg l:Expr}{tl:TE}(hl:PE X l tl):PI X tg l (iStr tl):=by
 intro pins s σ H R I h;refine thn (hl pins s σ H _ I h) λv s1 ⟨x,H1,I1,r1,q1⟩=>?_;obtain⟨z,rfl,q⟩:=q1;obtain⟨t,rfl⟩:=r1;have fp:∀b∈ [s1.heap.objs.size],FpOk X pins H1 b:=λb hb=>by
  have e:b=s1.heap.objs.size:=by simpa using hb
  subst e;exact I1.fpOk (Jb _) (I1.hok.fresh (Jb _))
 cases ha:z.cps.all (· < 128)
 ·refine wpAny_pyIter_wide ha ?_;exact⟨s1.heap.objs.size,[s1.heap.objs.size],_,_,H1,rfl,I1.kept (t':=s1.toks) λb o e=>Heap.get?_push_of_some _ e,
   ziC (n:= "str_iterator") (t:=t) (by decide) (λA' hA=>Walks.strWide hA _ z t) (λA' s Q E i hA st hi hQ=>wpAny_pyNext_wide_end hA st (by simpa using hi) λh' he'=>hQ h' λb o hb e=>he' b o hb e) (λA' s Q E i st hQ=>wpAny_pyIter_striter_wide st hQ),
   ⟨_,Heap.get?_push_size _ rfl,rfl,rfl⟩,fp,q⟩
 ·refine wpAny_pyIter_ascii ha ?_;exact⟨s1.heap.objs.size,[s1.heap.objs.size],_,_,H1,rfl,I1.kept (t':=s1.toks) λb o e=>Heap.get?_push_of_some _ e,
   ziC (n:= "str_ascii_iterator") (t:=t) (by decide) (λA' hA=>Walks.strAscii hA _ z t) (λA' s Q E i hA st hi hQ=>wpAny_pyNext_ascii_end hA st (by simpa using hi) λh' he'=>hQ h' λb o hb e=>he' b o hb e) (λA' s Q E i st hQ=>wpAny_pyIter_striter_ascii st hQ),
   ⟨_,Heap.get?_push_size _ rfl,rfl,rfl⟩,fp,q⟩
def zkH {z:Str}{g:TG}{tb:TS}{D:Ends}{σ:St}{H:Hp}(Pv:Nat->St->Hp->Prop)(h0:Pv 0 σ H)
  (hs:∀i c σ H,z.cps[i]? =some c->Pv i σ H->g (.str ⟨#[c]⟩) σ H fun σ2 H2=>tb {D with nx:=Pv (i+1),ct:=Pv (i+1),bk:=D.nx} σ2 H2) (hd:∀σ H,Pv z.cps.size σ H->D.nx σ H):
  ∃W:Nat->Nat->St->Hp->Prop,(∃m,W 0 m σ H)/\∀i m σ H,W i m σ H->
   ((Its z).stop i H/\D.nx σ H)\/((Its z).go i H/\∃N:St->Hp->Prop,(∀σ' H',N σ' H'->∃m',m' < m/\W (i+1) m' σ' H')/\∀x H',(Its z).yld i H x H'->g x σ H' fun σ2 H2=>tb {D with nx:=N,ct:=N,bk:=D.nx} σ2 H2):=by
 refine⟨λi m σ H=>m=z.cps.size - i/\i<=z.cps.size/\Pv i σ H,⟨z.cps.size,by simp,Nat.zero_le _,h0⟩,?_⟩;rintro i m σ H ⟨rfl,hi,p⟩;by_cases hlt:i < z.cps.size
 ·refine .inr ⟨hlt,Pv (i+1),fun σ' H' p'=>⟨z.cps.size - (i+1),by omega,rfl,hlt,p'⟩,λx H' y=>?_⟩;obtain⟨e,c,ec,ex⟩:=y;subst e ex;exact hs i c σ _ ec p
 ·have e:i=z.cps.size:=by omega
  subst e;exact .inl ⟨Jb _,hd σ H p⟩
def Itrs (lo st:Int)(n:Nat):It:=⟨λi _=>i < n,λi H x H'=>H'=H/\x=.int (lo+i * st),λi _=>n<=i⟩
def zi3 {P:Program}{w:World}{K:QA}{tg:Expr}(it:Addr)(lo st:Int)(n:Nat):Turn P w K tg (Itrs lo st n) [it] it (λi h=>IsRangeIter h it (lo+(i:Nat) * st) ((n:Int) - (i:Nat)) st) where
 mem:=by simp
 obj:=λi h st b hb=>by
  have e:b=it:=by simpa using hb
  subst e;exact⟨_,st,λv z=>by have z':Data.fields _=Data.cell v:=z;cases z'⟩
 keep:=λi h h' st k=>k it (by simp) _ st
 item:=by intro X hP hw hK hc i pins s σ H E I hf st' hg;subst hP hw hK;obtain⟨f0,f1,f2,f3,f4,f5⟩:=hf it (by simp);have W:=Walks.range (prog:=X.prog) (w:=X.w) (I.ok.hd hc) it lo st n;refine W.item i s _ _ hg st' λv h' tk hv st'' kk=>?_;obtain⟨t,rfl⟩:=hv;have I1:Inv X pins σ H {s with heap:=h',toks:=tk}:=I.turned (λb o hb e=>kk b o (by simpa using hb) e) f0 f1 f3 f4 f5;exact⟨_,rfl,zho (s:={s with heap:=h',toks:=tk}) (n:= "range_iterator") st'' rfl rfl (by decide) ⟨.int (lo+i * st),H,I1,⟨t,rfl⟩,⟨rfl,rfl⟩,st'',λb hb=>(hf b hb).1⟩⟩
 done:=by intro X hP hw hK hc i pins s σ H E I hf st' hg;subst hP hw hK;obtain⟨f0,f1,f2,f3,f4,f5⟩:=hf it (by simp);exact wpAny_pyNext_range_end (I.ok.hd hc) st' (by have:n<=i:=hg;omega) λh' eb=>⟨rfl,I.turned (t':=s.toks) (λb o hb e=>eb b o hb e) f0 f1 f3 f4 f5⟩
 self:=λ_ _ _ _ _ st h=>wpAny_pyIter_rangeiter st h
def zrs (ta:TA):TI:=fun σ H R=>ta σ H λvs H1=>∃j c:Int,vs=[.int 0,.int j,.int c]/\0<=j/\j < 2 ^ 60/\0 < c/\c < 1000/\R (Itrs 0 c ((j+c - 1) / c).toNat) H1
theorem zgy {j c:Int}(h0:0<=j)(hc:0 < c):Builtin.Range.rangeSize 0 j c=(j+c - 1) / c:=by
 unfold Builtin.Range.rangeSize;rw[if_pos hc];by_cases h:(0:Int) < j
 ·rw[if_pos h];have e:j+c - 1=(j - 0 - 1)+c * 1:=by omega
  rw[e,Int.add_mul_ediv_left _ _ (by omega)]
 ·rw[if_neg h];have e:j=0:=by omega
  subst e;rw[Int.ediv_eq_zero_of_lt (by omega) (by omega)]
def vals3 {x y z:V}{us:QN}(r:Vals [x,y,z] us):∃u v w',us=[u,v,w']/\RelV x u/\RelV y v/\RelV z w':=by
 cases r with
 | cons r1 r=>cases r with
  | cons r2 r=>cases r with
   | cons r3 r=>cases r;exact⟨_,_,_,rfl,r1,r2,r3⟩
def ziM {j c:Int}(h0:0<=j)(h1:j < 2 ^ 60)(hc:0 < c)(hc2:c < 1000):Builtin.Range.small 0 j c=true:=by have b1:(j+c - 1) / c<=j+c - 1:=Int.ediv_le_self _ (by omega);have b2:0<=(j+c - 1) / c:=Int.ediv_nonneg (by omega) (by omega);unfold Builtin.Range.small;rw[zgy h0 hc];simp only[Builtin.Range.rangeFitsLong,Bool.and_eq_true,Bool.or_eq_true,decide_eq_true_eq,beq_iff_eq];generalize(j+c - 1) / c=d at b1 b2 ⊢;have hc':c > 0:=hc;simp only[hc',if_true,Bool.and_eq_true,decide_eq_true_eq];omega
noncomputable abbrev _root_.Ji:=@List.mem_singleton
def zha {tg a b c:Expr}{ta:TA}{p pos:Pos}(hg:Gl X "range") (hm:X.mg "range" =none) (ha:PA X [a,b,c] ta) (hs:starEach [a,b,c] X.env=[(false,eval a X.env),(false,eval b X.env),(false,eval c X.env)]:=by rfl)
  (hs2:starEach [b,c] X.env=[(false,eval b X.env),(false,eval c X.env)]:=by rfl):PI X tg (.Call (.Name "range" p) [a,b,c] [] pos) (zrs ta):=by
 intro pins s σ H R I h;refine Call_ (zda I hg hm boot_range (PyProof.Rows.callWith_type1 (thn (ha pos pins s σ H _ I h) λus s1 ⟨vs,H1,I1,r1,q1⟩=>?_) (by rw[hs,hs2]) (by rw[hs2];rfl)));obtain⟨j,c,rfl,h0,h1,hc,hc2,q⟩:=q1;obtain⟨u,v,w',rfl,⟨t1,rfl⟩,⟨t2,rfl⟩,⟨t3,rfl⟩⟩:=vals3 r1;refine call_range_3 (by omega) ?_ (.inl (PyProof.noPylong_small (by omega)));refine wpAny_pyIter_range (IsRange.new ..) (ziM h0 h1 hc hc2) ?_;have I2:Inv X pins σ H1 {s1 with heap:=s1.heap.push {cls:=.type "range",data:=.fields #[.int 0 t1,.int j t2,.int c t3]}}:=I1.kept (t':=s1.toks) λb o e=>Heap.get?_push_of_some _ e;refine⟨_,[_],_,_,H1,rfl,I2.kept (t':=s1.toks) λb o e=>Heap.get?_push_of_some _ e,zi3 _ 0 c ((j+c - 1) / c).toNat,?_,λb hb=>?_,q⟩
 ·have b2:0<=(j+c - 1) / c:=Int.ediv_nonneg (by omega) (by omega);have e1:(0:Int)+((0:Nat):Int) * c=0:=by simp
  have e2:(((((j+c - 1) / c).toNat:Nat):Int) - ((0:Nat):Int))=Builtin.Range.rangeSize 0 j c:=by rw[zgy h0 hc];omega
  show IsRangeIter _ _ ((0:Int)+((0:Nat):Int) * c) (((((j+c - 1) / c).toNat:Nat):Int) - ((0:Nat):Int)) c;rw[e1,e2];exact Heap.get?_push_size _ rfl
 ·have e:=Ji.mp hb;subst e;exact I2.fpOk (Jb _) (I2.hok.fresh (Jb _))
end
def cutS (x:Str)(lo hi:Option Int):Str:=⟨((x.cps.toList.drop (HT.sIx x.length 0 lo)).take (HT.sIx x.length x.length hi - HT.sIx x.length 0 lo)).toArray⟩
theorem zna (l:List Nat)(i k:Nat):(List.range k).filterMap (λm=>l[i+m]?)=(l.drop i).take k:=by
 induction k with
 | zero=>simp
 | succ k ih=>
  rw[List.range_succ,List.filterMap_append,ih];by_cases h:i+k < l.length
  ·have e:l[i+k]? =some l[i+k]:=List.getElem?_eq_getElem h;rw[List.take_add_one];simp[List.getElem?_drop,e]
  ·have e:l[i+k]? =none:=List.getElem?_eq_none (by omega);have e2:((l.drop i).take (k+1))=(l.drop i).take k:=by rw[List.take_of_length_le (by rw[List.length_drop];omega),List.take_of_length_le (by rw[List.length_drop];omega)]
   rw[e2];simp[e]
theorem zlh (lo hi:Option Int)(n:Nat):Builtin.Str.strSliceIndices lo hi 1 n=(List.range (HT.sIx n n hi - HT.sIx n 0 lo)).map λk=>HT.sIx n 0 lo+k:=by
 have c0:∀(v:Int) (d:Nat),(max 0 (min (if v < 0 then v+(n:Int) else v) (n:Int)))=((HT.sIx n d (some v):Nat):Int):=λv d=>by
  rw[<-HT.clip_eq v n d];by_cases h:v < 0
  ·simp only[if_pos h];omega
  ·simp only[if_neg h];omega
 have key:∀a b:Nat,sliceRange (a:Int) (b:Int) 1=(List.range (b - a)).map λk=>a+k:=λa b=>by
  unfold sliceRange;have e1:(if (1:Int) > 0 then(if (a:Int) < (b:Int) then((b:Int) - (a:Int)+1 - 1) / 1 else 0) else(if (a:Int) > (b:Int) then((a:Int) - (b:Int) - 1 - 1) / (-1) else 0)).toNat=b - a:=by
   rw[if_pos (by decide)];split
   ·rw[Int.ediv_one];omega
   ·omega
  show List.map _ (List.range (if (1:Int) > 0 then(if (a:Int) < (b:Int) then((b:Int) - (a:Int)+1 - 1) / 1 else 0) else(if (a:Int) > (b:Int) then((a:Int) - (b:Int) - 1 - 1) / (-1) else 0)).toNat)=_;rw[e1];refine List.map_congr_left λk _=>?_;show((a:Int)+1 * (k:Int)).toNat=a+k;omega
 unfold Builtin.Str.strSliceIndices;simp only[show(1:Int) > 0 by decide,if_true];cases lo with
 | none=>
  cases hi with
  | none=>exact key 0 n
  | some v=>dsimp only;rw[c0 v n];exact key 0 _
 | some u=>
  cases hi with
  | none=>dsimp only;rw[c0 u 0];exact key _ n
  | some v=>dsimp only;rw[c0 u 0,c0 v n];exact key _ _
theorem zlv (x:Str)(lo hi:Option Int):Txt.slice x lo hi=cutS x lo hi:=by
 have h1:=HT.sIx_le x.length 0 (Nat.zero_le _) lo;have h2:=HT.sIx_le x.length x.length (Jb _) hi;have hn:x.cps.toList.length=x.length:=Array.length_toList;have e:((Builtin.Str.strSliceIndices lo hi 1 x.length).filterMap (x.cps[·]?))=(x.cps.toList.drop (HT.sIx x.length 0 lo)).take (HT.sIx x.length x.length hi - HT.sIx x.length 0 lo):=by rw[zlh,List.filterMap_map,<-zna];refine congrArg (λf=>List.filterMap f _) ?_;funext m;show x.cps[_]? =x.cps.toList[_]?;rw[Array.getElem?_toList]
 unfold Txt.slice cutS;split
 ·rename_i h;have hl:(Builtin.Str.strSliceIndices lo hi 1 x.length).length=x.length:=by simpa using h
  rw[zlh,List.length_map,List.length_range] at hl;have a0:HT.sIx x.length 0 lo=0\/x.length=0:=by omega
  rcases a0 with a0 | a0
  ·rw[a0,List.drop_zero,Nat.sub_zero,List.take_of_length_le (by omega)]
  ·have en:x.cps.toList=[]:=List.eq_nil_of_length_eq_zero (by omega);rw[en,List.drop_nil,List.take_nil];have:x.cps= #[]:=by rw[<-Array.toList_inj];exact en
   rcases x with ⟨c⟩;rw[show c= #[] from this]
 ·rw[e]
section
variable {X:Cx}
def rSlS:V->Option Int->Option Int->Hp->VK->Prop:=λx lo hi H Q=>∃z,x=.str z/\z.length<=sizeLine/\Q (.str (cutS z lo hi)) H
def zqG:SlR X rSlS:=by
 intro pins s σ H x v vl vu lo hi sl Q I rx hs pl pu h;obtain⟨z,rfl,hz,q⟩:=h;obtain⟨t,rfl⟩:=rx;refine⟨"str",_,F.slot_str_getitem.lookup,typeIs_str _ _ _,?_⟩;have main:∀(l u:Option (Int ×Tok)),vl=partValue l->vu=partValue u->lo=l.map (·.1)->hi=u.map (·.1)->wpAny (model X.prog X.w) X.A (getItem (.str z t) (.ref sl)) (EP X pins σ Q) X.xe s:=λl u e1 e2 e3 e4=>by subst e1 e2 e3 e4;refine wpAny_getItem_str_slice (l:=l) (u:=u) (st:=none) hs rfl (post_val_or_str ⟨Jk (Txt.slice_le z _ _) hz,λt' k=>?_⟩);show EP X pins σ Q (.str (Txt.slice z (l.map (·.1)) (u.map (·.1))) t') _;rw[zlv];exact⟨.str _,H,I.tok k,⟨_,rfl⟩,q⟩
 cases pl with
 | none=>
  cases pu with
  | none=>exact main none none rfl rfl rfl rfl
  | int j u=>exact main none (some (j,u)) rfl rfl rfl rfl
 | int i t'=>
  cases pu with
  | none=>exact main (some (i,t')) none rfl rfl rfl rfl
  | int j u=>exact main (some (i,t')) (some (j,u)) rfl rfl rfl rfl
end
structure Dfn (K:QA)(mg:QB)(x:Str)(st:Stmt)(ps:QP):Prop where
 ex:∃f fd,Fun K x x st f fd/\Binds K fd ps []/\mg x=some (.ref f)
structure Fn (P:Program)(w:World)(K:QA)(mg:QB)(base:Heap)(x:Str)(k:Nat)(ps:QP)(sp:Sp):Prop where
 ex:∃f fd,FnOk P w K mg base CX0 k f fd ps sp/\Binds K fd ps []/\PySem.W.keepIn K (.ref f)=true/\mg x=some (.ref f)
section
variable {P:Program}{w:World}{K:QA}{mg:QB}{base:Heap}{x:Str}{st:Stmt}{ps N:QP}{sp sp':Sp}{k:Nat}
theorem Dfn.ok (D:Dfn K mg x st ps)(S:zr N ps (ze st))(len:∀vs H Q E,sp vs H Q E->vs.length=ps.length)
  (hbody:∀(f:Addr) (cdv:Value) (A:Around) (outer:List Env) (s:Shared) (H:Hp) (vs:QQ) (Q:VK) (E:XK),Room k (A.deeper (envOfC x (ze st) s.heap.objs.size f cdv))->sp vs H Q E->
   ∃t,PSs (cxOf CX0 P w K mg base N x (ze st) f cdv A outer s H E).nox (zD st) t/\t {nx:=λ_ H'=>Q .non H',rt:=Q} (start N vs) H):Fn P w K mg base x (k+1) ps sp:=by
 obtain⟨f,fd,F,b,m⟩:=D.ex;exact⟨f,fd,F.ok S len (λcdv A outer s H vs Q E hr h=>hbody f cdv A outer s H vs Q E hr h),b,F.kp,m⟩
def Dfn.never (D:Dfn K mg x st ps)(no:∀vs H Q E,¬sp vs H Q E):Fn P w K mg base x k ps sp:=by obtain⟨f,fd,F,b,m⟩:=D.ex;exact⟨f,fd,⟨λvs H Q E h=>Jh h (no vs H Q E),λA outer s H args us vs Q E _ _ _ _ h=>Jh h (no vs H Q E)⟩,b,F.kp,m⟩
end
section
variable {X:Cx}{x:Str}{ps:QP}{sp:Sp}{k k':Nat}{e:Expr}{es:List Expr}{t:TA}{p pos:Pos}
def zK (F:Fn X.prog X.w X.K X.mg X.base x k ps sp)(hr:Room k' X.A)(hle:k<=k')(hg:Gl X x)(ha:PA X (e::es) t)(hd:(x==("__debug__" :Str))=false:=by decide)
  (he:starEach (e::es) X.env=(false,eval e X.env)::starEach es X.env:=by rfl) (hpl:∀pos,(backTo pos (starEach es X.env)).any (·.1)=false:=by intro _;rfl):PE X (.Call (.Name x p) (e::es) [] pos) (zk4 sp [] E0 t):=by
 obtain⟨f,fd,a,b,kp,m⟩:=F.ex;exact zkC a (hr.mono hle) hg m kp b .nil zdS ha hd he (hpl _)
end
section
variable {X:Cx}
end
end L2
namespace Pv
open PySem L2
inductive Th where
 | non
 | int (i:Int)
 | str (x:Str)
 | tup (ts:List Th)
mutual
def nodes:Th->Nat
 | .non=>1
 | .int _=>1
 | .str _=>1
 | .tup ts=>1+zbe ts
def zbe:List Th->Nat
 | []=>0
 | t::r=>nodes t+zbe r
end
mutual
def dep:Th->Nat
 | .non=>0
 | .int _=>0
 | .str _=>0
 | .tup ts=>depL ts+1
def depL:List Th->Nat
 | []=>0
 | t::r=>max (dep t) (depL r)
end
def Sign (c:Nat):Prop:=32<=c/\c<=126/\c≠37
def zkx (x:Str):Prop:=x.length<=60/\∀c∈x.cps.toList,Sign c
mutual
def Wf:Th->Prop
 | .non=>True
 | .int i=> -(10 ^ 30)<=i/\i<=10 ^ 30
 | .str x=>zkx x
 | .tup ts=>ts.length<=40/\WfL ts
def WfL:List Th->Prop
 | []=>True
 | t::r=>Wf t/\WfL r
end
theorem WfL.get:∀{ts:List Th} {i:Nat} {t:Th},WfL ts->ts[i]? =some t->Wf t
 | [],_,_,_,e=>by simp at e
 | u::r,0,t,h,e=>by simp at e;subst e;exact h.1
 | u::r,i+1,t,h,e=>WfL.get (i:=i) h.2 (by simpa using e)
theorem zck:∀{ts:List Th} {i:Nat} {t:Th},ts[i]? =some t->dep t<=depL ts
 | [],_,_,e=>by simp at e
 | u::r,0,t,e=>by simp at e;subst e;exact Nat.le_max_left _ _
 | u::r,i+1,t,e=>Jk (zck (i:=i) (by simpa using e)) (Nat.le_max_right _ _)
inductive Rep (H:Hp):Th->V->Prop where
 | non:Rep H .non .non
 | int (i:Int):Rep H (.int i) (.int i)
 | str (x:Str):Rep H (.str x) (.str x)
 | tup {a:Addr} {xs:QQ} {ts:List Th} (e:H a=some (.tup xs)) (l:xs.length=ts.length) (h:∀(i:Nat) (x:V) (t:Th),xs[i]? =some x->ts[i]? =some t->Rep H t x):Rep H (.tup ts) (.ref a)
def Tups (H H':Hp):Prop:=∀b xs,H b=some (.tup xs)->H' b=some (.tup xs)
def Rep.keep {H H':Hp}{t:Th}{v:V}(r:Rep H t v)(k:Tups H H'):Rep H' t v:=by
 induction r with
 | non=>exact .non
 | int i=>exact .int i
 | str x=>exact .str x
 | tup e l h ih=>exact .tup (k _ _ e) l ih
def Frm (ws:QO)(H H':Hp):Prop:=∀b o,b∉ws->H b=some o->H' b=some o
def Frm.refl {ws:QO}{H:Hp}:Frm ws H H:=λ_ _ _ h=>h
theorem Frm.trans {ws:QO}{H H1 H2:Hp}(a:Frm ws H H1)(b:Frm ws H1 H2):Frm ws H H2:=λc o n h=>b c o n (a c o n h)
def Frm.mono {ws ws':QO}{H H1:Hp}(a:Frm ws H H1)(h:∀b∈ws,b∈ws'):Frm ws' H H1:=λc o n e=>a c o (λz=>n (h c z)) e
theorem Frm.new {ws:QO}{H:Hp}{p:Addr}{o:HO}(h:H p=none):Frm ws H (upd H p o):=λb u _ q=>by rw[zk (zm q h)];exact q
theorem Frm.upd {ws:QO}{H:Hp}{p:Addr}{o:HO}(h:p∈ws):Frm ws H (upd H p o):=λb u n q=>by rw[zk (λz=>n (by rw[z];exact h))];exact q
theorem Frm.same {H H':Hp}(a:Frm [] H H'):Same H H':=λb o h=>a b o (by simp) h
theorem Frm.of {ws:QO}{H H':Hp}(a:Same H H'):Frm ws H H':=λb o _ h=>a b o h
theorem Frm.at {ws:QO}{H H':Hp}{b:Addr}{o:HO}(a:Frm ws H H')(h:H b=some o)(n:b∉ws):H' b=some o:=a b o n h
theorem Same.tups {H H':Hp}(a:Same H H'):Tups H H':=λb xs e=>a b _ e
theorem Tups.trans {H H1 H2:Hp}(a:Tups H H1)(b:Tups H1 H2):Tups H H2:=λc xs e=>b c xs (a c xs e)
theorem Tups.upd {H:Hp}{p:Addr}{o:HO}(h:∀xs,H p≠some (.tup xs)):Tups H (upd H p o):=λb xs e=>by rw[zk (λz=>h xs (by rw[<-z];exact e))];exact e
theorem Tups.new {H:Hp}{p:Addr}{o:HO}(h:H p=none):Tups H (L2.upd H p o):=Tups.upd λxs e=>by rw[h] at e;cases e
end Pv
namespace L2
open PySem PySem.Spec PyProof.Rows
section
variable {X:Cx}{x y:Str}{scope:Scope}{j:Nat}{c:Addr}
def zdg {env:Env}{p:Str ×NameKind}(h:p∈(relabel scope env).names):∃q∈scope.names,p.1=q.1/\(p=q\/q.2=.free):=by
 obtain⟨q,hq,e⟩:=List.mem_map.mp h;obtain⟨n,k⟩:=q;refine⟨(n,k),hq,?_⟩;dsimp only at e;split at e
 ·rename_i hc;subst e;refine⟨rfl,.inr ?_⟩;have:=(Bool.and_eq_true _ _).mp ((Bool.and_eq_true _ _).mp hc).1;simpa using this.1
 ·subst e;exact⟨rfl,.inl rfl⟩
def zV.zero (kind:scope.kind=.function)(nf:∀y∈scope.names,y.2≠ .free)(nc:∀y∈scope.names,y.2≠ .cell)(nm:∀y∈scope.names,y.2=.local->scope.names.lookup y.1=some .local)(tgt:scope.names.lookup x=some .local):
  zV X x [] [] scope [] where
 clos:=closureFor_none nf
 kind:=kind
 nocell:=nc
 names:=nm
 tgt:=tgt
 nd:=by simp
 sub:=λp hp=>by simp at hp
 has:=λp hp hk=>by
  obtain⟨q,hq,e,h | h⟩:=zdg hp
  ·subst h;rcases hk with hk | hk
   ·exact Jh hk (nc _ hq)
   ·exact Jh hk (nf _ hq)
  ·exact Jh h (nf _ hq)
 fr:=λi y e=>by simp at e
 len:=rfl
def zV.one (clos:closureFor scope X.env=pure [(y,c)])(kind:scope.kind=.function)(nc:∀y∈scope.names,y.2≠ .cell)(nm:∀y∈scope.names,y.2=.local->scope.names.lookup y.1=some .local)(tgt:scope.names.lookup x=some .local)
  (ne:x≠y) (cell:X.env.cells.lookup y=some c) (only:∀q∈scope.names,q.2=.free->q.1=y) (hN:X.N[j]? =some y) (hk:X.env.kindOf y=some .cell\/X.env.kindOf y=some .free)
  (hk':(relabel scope X.env).names.lookup y=some .cell\/(relabel scope X.env).names.lookup y=some .free):zV X x [y] [j] scope [(y,c)] where
 clos:=clos
 kind:=kind
 nocell:=nc
 names:=nm
 tgt:=tgt
 nd:=by simp[ne]
 sub:=λp hp=>by cases Ji.mp hp;exact cell
 has:=λp hp hk=>by
  obtain⟨q,hq,e,h | h⟩:=zdg hp
  ·subst h;rcases hk with hk | hk
   ·exact Jh hk (nc _ hq)
   ·simp[only _ hq hk]
  ·simp[e,only _ hq h]
 fr:=λi z e=>by
  cases i with
  | zero=>cases e;exact⟨j,rfl,hN,hk,hk'⟩
  | succ i=>simp at e
 len:=rfl
end
def ifT {c:Bool}{A B:Prop}(h:c=true)(a:A):if c=true then A else B:=by rw[if_pos h];exact a
def ifF {c:Bool}{A B:Prop}(h:c=false)(b:B):if c=true then A else B:=by rw[if_neg (by rw[h];exact Jf)];exact b
def ifB {c:Bool}{A B:Prop}(a:c=true->A)(b:c=false->B):if c=true then A else B:=by
 cases c with
 | true=>exact ifT rfl (a rfl)
 | false=>exact ifF rfl (b rfl)
theorem zcO {i j:Int}:decide (V.int i=V.int j)=decide (i=j):=by
 by_cases h:i=j
 ·subst h;simp
 ·rw[Je h];exact Je λz=>h (V.int.inj z)
section
variable {X:Cx}{K:QA}
def zoI (h:X.K=K):IxR X (rIxT K):=h ▸ zI
end
section
variable {X:Cx}{x:Str}{ps:QP}{sp:Sp}{k k':Nat}{p pos:Pos}
end
end L2
namespace L2
open PySem PySem.Spec PyProof.Rows Px
structure FnX (P:Program)(w:World)(K:QA)(mg:QB)(base:Heap)(x:Str)(k:Nat)(ps:QP)(sp:Sp):Prop where
 ex:∃f fd,FnOk P w K mg base (CX1 P w) k f fd ps sp/\Binds K fd ps []/\PySem.W.keepIn K (.ref f)=true/\mg x=some (.ref f)
structure Mdf (K:QA)(C:Addr)(m qual:Str)(st:Stmt)(ps:QP):Prop where
 ex:∃f fd,Fun K m qual st f fd/\Binds K fd ps []/\Meth K C m f
structure Mt (P:Program)(w:World)(K:QA)(mg:QB)(base:Heap)(CX:CXT)(C:Addr)(m:Str)(k:Nat)(ps:QP)(sp:Sp):Prop where
 ex:∃f fd,FnOk P w K mg base CX k f fd ps sp/\Binds K fd ps []/\Meth K C m f
structure Mkd (K:QA)(mg:QB)(x:Str)(C:Addr)(qual:Str)(st:Stmt)(ps:QP):Prop where
 ex:∃f fd,Fun K "__init__" qual st f fd/\Binds K fd ps []/\Mk K C f/\mg x=some (.ref C)
structure Mkr (P:Program)(w:World)(K:QA)(mg:QB)(base:Heap)(x:Str)(C:Addr)(k:Nat)(ps:QP)(sp:Sp):Prop where
 ex:∃f fd,FnOk P w K mg base CX0 k f fd ps sp/\Binds K fd ps []/\Mk K C f/\mg x=some (.ref C)
structure XId (K:QA)(mg:QB)(x:Str)(C:Addr)(qual:Str)(st:Stmt)(ps:QP):Prop where
 cl:XCls K C
 ex:∃f fd,Fun K "__init__" qual st f fd/\Binds K fd ps []/\PySem.W.findIn K (.ref C) "__init__" =some (some (.ref f))/\PySem.W.isFn K (.ref f)=true/\mg x=some (.ref C)
structure XI (P:Program)(w:World)(K:QA)(mg:QB)(base:Heap)(x:Str)(C:Addr)(k:Nat)(ps:QP)(sp:Sp):Prop where
 cl:XCls K C
 ex:∃f fd,FnOk P w K mg base CX0 k f fd ps sp/\Binds K fd ps []/\PySem.W.findIn K (.ref C) "__init__" =some (some (.ref f))/\PySem.W.isFn K (.ref f)=true/\mg x=some (.ref C)
structure XP (K:QA)(mg:QB)(x:Str)(C:Addr):Prop where
 cl:XCls K C
 ei:PySem.W.excIn K C bmV "ValueError.__new__" =true
 mg:mg x=some (.ref C)
section
variable {P:Program}{w:World}{K:QA}{mg:QB}{base:Heap}{x m qual:Str}{C:Addr}{st:Stmt}{ps N:QP}{sp sp':Sp}{k:Nat}{CX:CXT}
def Dfn.okX (D:Dfn K mg x st ps)(S:zr N ps (ze st))(len:∀vs H Q E,sp vs H Q E->vs.length=ps.length)
  (hbody:∀(f:Addr) (cdv:Value) (A:Around) (outer:List Env) (s:Shared) (H:Hp) (vs:QQ) (Q:VK) (E:XK),Room k (A.deeper (envOfC x (ze st) s.heap.objs.size f cdv))->sp vs H Q E->
   ∃t,PSs (cxOf (CX1 P w) P w K mg base N x (ze st) f cdv A outer s H E) (zD st) t/\t {nx:=λ_ H'=>Q .non H',rt:=Q} (start N vs) H):FnX P w K mg base x (k+1) ps sp:=by
 obtain⟨f,fd,F,b,m⟩:=D.ex;exact⟨f,fd,F.okX S len (λcdv A outer s H vs Q E hr h=>hbody f cdv A outer s H vs Q E hr h),b,F.kp,m⟩
theorem Mdf.ok (D:Mdf K C m qual st ps)(S:zr N ps (ze st))(len:∀vs H Q E,sp vs H Q E->vs.length=ps.length)
  (hbody:∀(f:Addr) (cdv:Value) (A:Around) (outer:List Env) (s:Shared) (H:Hp) (vs:QQ) (Q:VK) (E:XK),Room k (A.deeper (envOfC qual (ze st) s.heap.objs.size f cdv))->sp vs H Q E->
   ∃t,PSs (cxOf CX0 P w K mg base N qual (ze st) f cdv A outer s H E).nox (zD st) t/\t {nx:=λ_ H'=>Q .non H',rt:=Q} (start N vs) H):Mt P w K mg base CX0 C m (k+1) ps sp:=by
 obtain⟨f,fd,F,b,me⟩:=D.ex;exact⟨f,fd,F.ok S len (λcdv A outer s H vs Q E hr h=>hbody f cdv A outer s H vs Q E hr h),b,me⟩
def Mdf.okX (D:Mdf K C m qual st ps)(S:zr N ps (ze st))(len:∀vs H Q E,sp vs H Q E->vs.length=ps.length)
  (hbody:∀(f:Addr) (cdv:Value) (A:Around) (outer:List Env) (s:Shared) (H:Hp) (vs:QQ) (Q:VK) (E:XK),Room k (A.deeper (envOfC qual (ze st) s.heap.objs.size f cdv))->sp vs H Q E->
   ∃t,PSs (cxOf (CX1 P w) P w K mg base N qual (ze st) f cdv A outer s H E) (zD st) t/\t {nx:=λ_ H'=>Q .non H',rt:=Q} (start N vs) H):Mt P w K mg base (CX1 P w) C m (k+1) ps sp:=by
 obtain⟨f,fd,F,b,me⟩:=D.ex;exact⟨f,fd,F.okX S len (λcdv A outer s H vs Q E hr h=>hbody f cdv A outer s H vs Q E hr h),b,me⟩
theorem Mkd.ok (D:Mkd K mg x C qual st ps)(S:zr N ps (ze st))(len:∀vs H Q E,sp vs H Q E->vs.length=ps.length)
  (hbody:∀(f:Addr) (cdv:Value) (A:Around) (outer:List Env) (s:Shared) (H:Hp) (vs:QQ) (Q:VK) (E:XK),Room k (A.deeper (envOfC qual (ze st) s.heap.objs.size f cdv))->sp vs H Q E->
   ∃t,PSs (cxOf CX0 P w K mg base N qual (ze st) f cdv A outer s H E).nox (zD st) t/\t {nx:=λ_ H'=>Q .non H',rt:=Q} (start N vs) H):Mkr P w K mg base x C (k+1) ps sp:=by
 obtain⟨f,fd,F,b,mk,mm⟩:=D.ex;exact⟨f,fd,F.ok S len (λcdv A outer s H vs Q E hr h=>hbody f cdv A outer s H vs Q E hr h),b,mk,mm⟩
theorem XId.ok (D:XId K mg x C qual st ps)(S:zr N ps (ze st))(len:∀vs H Q E,sp vs H Q E->vs.length=ps.length)
  (hbody:∀(f:Addr) (cdv:Value) (A:Around) (outer:List Env) (s:Shared) (H:Hp) (vs:QQ) (Q:VK) (E:XK),Room k (A.deeper (envOfC qual (ze st) s.heap.objs.size f cdv))->sp vs H Q E->
   ∃t,PSs (cxOf CX0 P w K mg base N qual (ze st) f cdv A outer s H E).nox (zD st) t/\t {nx:=λ_ H'=>Q .non H',rt:=Q} (start N vs) H):XI P w K mg base x C (k+1) ps sp:=by
 obtain⟨c,f,fd,F,b,i,n,mm⟩:=D;exact⟨c,f,fd,F.ok S len (λcdv A outer s H vs Q E hr h=>hbody f cdv A outer s H vs Q E hr h),b,i,n,mm⟩
end
section
variable {X:Cx}{CX:CXT}{x m:Str}{C:Addr}{ps:QP}{sp:Sp}{k k':Nat}{e o:Expr}{es:List Expr}{ta:TE}{t:TA}{p pos apos:Pos}{E:XK}{ES:St->XK}
def zaP (F:FnX X.prog X.w X.K X.mg X.base x k ps sp)(hr:Room k' X.A)(hle:k<=k')(hg:Gl X x)(hx:zbn (CX1 X.prog X.w) X E)(ha:PA X (e::es) t)(hd:(x==("__debug__" :Str))=false:=by decide)
  (he:starEach (e::es) X.env=(false,eval e X.env)::starEach es X.env:=by rfl) (hpl:∀pos,(backTo pos (starEach es X.env)).any (·.1)=false:=by intro _;rfl):PE X (.Call (.Name x p) (e::es) [] pos) (zk4 sp [] E t):=by
 obtain⟨f,fd,a,b,kp,m⟩:=F.ex;exact zkC a (hr.mono hle) hg m kp b .nil hx ha hd he (hpl _)
def zjk (F:FnX X.prog X.w X.K X.mg X.base x k ps sp)(hr:Room k' X.A)(hle:k<=k')(hg:Gl X x)(hx:zbp (CX1 X.prog X.w) X ES)(ha:PA X (e::es) t)(hd:(x==("__debug__" :Str))=false:=by decide)
  (he:starEach (e::es) X.env=(false,eval e X.env)::starEach es X.env:=by rfl) (hpl:∀pos,(backTo pos (starEach es X.env)).any (·.1)=false:=by intro _;rfl):PE X (.Call (.Name x p) (e::es) [] pos) (zno sp ES t):=by
 obtain⟨f,fd,a,b,kp,m⟩:=F.ex;exact zmO a (hr.mono hle) hg m kp b hx ha hd he (hpl _)
def zbw {pl:Sem Bool}(he:PE X o ta)(c:Cls X.K C)(M:Mt X.prog X.w X.K X.mg X.base CX C m k ps sp)(hr:Room k' X.A)(hle:k<=k')(hx:zbn CX X E)(ha:PA X (e::es) t)
  (hst:starEach (e::es) X.env=(false,eval e X.env)::starEach es X.env:=by rfl) (hpl:∀pos,(backTo pos (starEach es X.env)).any (·.1)=false:=by intro _;rfl)
  (ht:eval (.Call (.Attribute o m apos) (e::es) [] pos) X.env=(do
   let ov<-eval o X.env
   standAt apos.atName
   let (f,first) <-holding [ov] (getMethod ov m pl)
   callWith pos f first (backTo pos (starEach (e::es) X.env)) (backToKw pos (keywordEach [] X.env))):=by rfl):
  PE X (.Call (.Attribute o m apos) (e::es) [] pos) (zkF C m sp [] E ta t):=by
 obtain⟨f,fd,a,b,me⟩:=M.ex;exact zpl he c me a (hr.mono hle) b .nil hx ha hst (hpl _) ht
def zqY {pl:Sem Bool}(he:PE X o ta)(c:Cls X.K C)(M:Mt X.prog X.w X.K X.mg X.base CX C m k ps sp)(hr:Room k' X.A)(hle:k<=k')(hx:zbp CX X ES)(ha:PA X (e::es) t)
  (hst:starEach (e::es) X.env=(false,eval e X.env)::starEach es X.env:=by rfl) (hpl:∀pos,(backTo pos (starEach es X.env)).any (·.1)=false:=by intro _;rfl)
  (ht:eval (.Call (.Attribute o m apos) (e::es) [] pos) X.env=(do
   let ov<-eval o X.env
   standAt apos.atName
   let (f,first) <-holding [ov] (getMethod ov m pl)
   callWith pos f first (backTo pos (starEach (e::es) X.env)) (backToKw pos (keywordEach [] X.env))):=by rfl):
  PE X (.Call (.Attribute o m apos) (e::es) [] pos) (zmL C m sp ES ta t):=by
 obtain⟨f,fd,a,b,me⟩:=M.ex;exact znu he c me a (hr.mono hle) b hx ha hst (hpl _) ht
def zgE {pl:Sem Bool}(he:PE X o ta)(c:Cls X.K C)(M:Mt X.prog X.w X.K X.mg X.base CX C m k ps sp)(hr:Room k' X.A)(hle:k<=k')(hx:zbn CX X E)
  (ht:eval (.Call (.Attribute o m apos) [] [] pos) X.env=(do
   let ov<-eval o X.env
   standAt apos.atName
   let (f,first) <-holding [ov] (getMethod ov m pl)
   callWith pos f first (backTo pos (starEach [] X.env)) (backToKw pos (keywordEach [] X.env))):=by rfl):
  PE X (.Call (.Attribute o m apos) [] [] pos) (zkF C m sp [] E ta tNil):=by
 obtain⟨f,fd,a,b,me⟩:=M.ex;exact zmF he c me a (hr.mono hle) b .nil hx ht
def zfM (M:Mkr X.prog X.w X.K X.mg X.base x C k ps sp)(hr:Room k' X.A)(hle:k+1<=k')(hg:Gl X x)(hd:(x==("__debug__" :Str))=false:=by decide):PE X (.Call (.Name x p) [] [] pos) (zix C sp [] E0 tNil):=by obtain⟨f,fd,a,b,mk,mm⟩:=M.ex;exact zmr mk a (hr.mono hle) hg mm b .nil zdS hd
def zn3 (M:Mkr X.prog X.w X.K X.mg X.base x C k ps sp)(hr:Room k' X.A)(hle:k+1<=k')(hg:Gl X x)(ha:PA X (e::es) t)(hd:(x==("__debug__" :Str))=false:=by decide)
  (he:starEach (e::es) X.env=(false,eval e X.env)::starEach es X.env:=by rfl) (hpl:∀pos,(backTo pos (starEach es X.env)).any (·.1)=false:=by intro _;rfl):PE X (.Call (.Name x p) (e::es) [] pos) (zix C sp [] E0 t):=by
 obtain⟨f,fd,a,b,mk,mm⟩:=M.ex;exact zk6 mk a (hr.mono hle) hg mm b .nil zdS ha hd he (hpl _)
def zrw (M:XI X.prog X.w X.K X.mg X.base x C k ps sp)(hr:Room k' X.A)(hle:k+1<=k')(hg:Gl X x)(ha:PA X (e::es) t)(hd:(x==("__debug__" :Str))=false:=by decide)
  (he:starEach (e::es) X.env=(false,eval e X.env)::starEach es X.env:=by rfl) (hpl:∀pos,(backTo pos (starEach es X.env)).any (·.1)=false:=by intro _;rfl):PE X (.Call (.Name x p) (e::es) [] pos) (zpU C sp t):=by
 obtain⟨c,f,fd,a,b,i,n,mm⟩:=M;exact zpk c i n a (hr.mono hle) b hg mm ha hd he (hpl _)
def zni (M:XP X.K X.mg x C)(hg:Gl X x)(ha:PA X (e::es) t)(hd:(x==("__debug__" :Str))=false:=by decide)
  (he:starEach (e::es) X.env=(false,eval e X.env)::starEach es X.env:=by rfl) (hpl:∀pos,(backTo pos (starEach es X.env)).any (·.1)=false:=by intro _;rfl):PE X (.Call (.Name x p) (e::es) [] pos) (tExc C t):=
 zqF M.cl M.ei hg M.mg ha hd he (hpl _)
end
end L2
namespace L2
open PySem PySem.Spec PyProof.Rows
section
variable {P:Program}{W:World}{A:Around}{E:QC}{z:Shared}
def zf0 {j t:Addr}{n:Nat}{us:Array Value}{v:Value}{Q:QC}(hj:z.heap.IsTupleIter j t n)(ht:z.heap.IsTuple t us)(hv:us[n]? =some v)
  (q:∀g,g.IsTupleIter j t (n+1)->Heap.SameBut j z.heap g->Q v {z with heap:=g}):wpAny (model P W) A (Builtin.SmallTypes.nextOf (.ref j)) Q E z:=by
 obtain⟨oj,ej,cj,dj⟩:=id hj;obtain⟨ot,et,_,nt,dt⟩:=ht;unfold Builtin.SmallTypes.nextOf;refine Ja (wpAny_callSpecial?_slot (name:=Str.ofString "__next__") hj.typeIs F.slot_tuple_iterator_next (wpAny_call_entry F.slot_tuple_iterator_next hj.typeIs F.entry_tuple_iterator_next ?_ (F.args_tuple_iterator_next_1 _)));show wpAny _ _ (field (.ref j) 0 >>=_) _ _ z;refine Ja (wpAny_field ej dj (x:=.ref t) rfl ?_);show wpAny _ _ (if (Value.ref t==Value.none)=true then _ else _) _ _ z;rw[if_neg (show¬((Value.ref t==Value.none)=true) from Jf)];show wpAny _ _ (field (.ref j) 1 >>=_) _ _ z;refine Ja (wpAny_field ej dj (x:=.int n 0) rfl ?_);show wpAny _ _ (seqItems? (.ref t) >>=_) _ _ z;refine Ja (wpAny_seqItems et dt ?_);simp only[Int.toNat_natCast,hv];refine Ja (wpAny_setField ej dj (by simp) (wpAny_pure ⟨v,rfl,wpAny_pure (q _ ⟨_,Heap.get?_update_self _ ej (Obj.isFreed_of_fields (Obj.data_mapFields dj _)),(Obj.cls_mapFields ..).trans cj,by rw[Obj.data_mapFields dj];simp[rawInt]⟩ (Heap.SameBut.update ..))⟩))
def ziB {j t:Addr}{n:Nat}{us:Array Value}{Q:QC}(hh:A.handled=none)(hj:z.heap.IsTupleIter j t n)(ht:z.heap.IsTuple t us)(hv:us[n]? =none)
  (q:∀g e,Heap.ExtBut j z.heap g->(∃o,g.get? e=some o/\o.cls=.type "StopIteration")->E (.ref e) {z with heap:=g}):wpAny (model P W) A (Builtin.SmallTypes.nextOf (.ref j)) Q E z:=by
 obtain⟨oj,ej,cj,dj⟩:=id hj;obtain⟨ot,et,_,nt,dt⟩:=ht;unfold Builtin.SmallTypes.nextOf;refine Ja (wpAny_callSpecial?_slot (name:=Str.ofString "__next__") hj.typeIs F.slot_tuple_iterator_next (wpAny_call_entry F.slot_tuple_iterator_next hj.typeIs F.entry_tuple_iterator_next ?_ (F.args_tuple_iterator_next_1 _)));show wpAny _ _ (field (.ref j) 0 >>=_) _ _ z;refine Ja (wpAny_field ej dj (x:=.ref t) rfl ?_);show wpAny _ _ (if (Value.ref t==Value.none)=true then _ else _) _ _ z;rw[if_neg (show¬((Value.ref t==Value.none)=true) from Jf)];show wpAny _ _ (field (.ref j) 1 >>=_) _ _ z;refine Ja (wpAny_field ej dj (x:=.int n 0) rfl ?_);show wpAny _ _ (seqItems? (.ref t) >>=_) _ _ z;refine Ja (wpAny_seqItems et dt ?_);simp only[Int.toNat_natCast,hv];refine Ja (wpAny_rule (Ja (wpAny_setField ej dj (by simp) ?_)));show wpAny _ _ (newExc (.type "StopIteration") [] >>=_) _ _ _;refine Ja ?_;simp only[newExc,newTuple];refine Ja (wpAny_newObj_type ?_ (by size_fits));refine Ja (m:=firstArgMember _ _) (wpAny_of_eq (a:=Value.none) (by first | rfl | (simp only[firstArgMember];rfl)) ?_);refine wpAny_newObj_type ?_ (by size_fits);simp only[raiseNew];refine Ja (wpAny_handled ?_);first | rw[show A.in1.handled=none from hh] | rw[hh]
 refine Ja (wpAny_pure (wpAny_throw ?_));exact q _ _ (((Heap.SameBut.update ..).extBut.push _).push _) ⟨_,Heap.get?_push_size _ rfl,rfl⟩
structure ZSt (g:Heap)(y a o i k p q:Addr)(n:Nat)(xs us:Array Value)(f:Value):Prop where
 zp:IsZip g y a o f
 its:IsPair g a (.ref i) (.ref k)
 own:∃b c,IsPair g o b c
 i1:g.IsTupleIter i p n
 i2:g.IsTupleIter k q n
 t1:g.IsTuple p xs
 t2:g.IsTuple q us
def zn6 {y a o i k p q:Addr}{n:Nat}{xs us:Array Value}{u v:Value}{Q:Option Value->Shared->Prop}(D:ZipApart y a o i k p q)(S:ZSt z.heap y a o i k p q n xs us .none)(hu:xs[n]? =some u)(hv:us[n]? =some v)
  (fin:∀g,ZSt g y a o i k p q (n+1) xs us (rawInt z.heap.objs.size)->IsPair g z.heap.objs.size u v->g.objs.size=z.heap.objs.size+1->(∀c r,c≠y->c≠o->c≠i->c≠k->z.heap.get? c=some r->g.get? c=some r)->Q (some (.ref z.heap.objs.size)) {z with heap:=g}):
  wpAny (model P W) A (pyNext (.ref y)) Q E z:=by
 obtain⟨hz,ha,⟨b,c,ho⟩,hi,hk,hp,hq⟩:=S;have tz:z.TypeIs (.ref y) "zip" :=⟨_,hz,rfl⟩;have main:wpAny (model P W) A.in1 (Builtin.«zip.__next__» ⟨[.ref y],[]⟩) (λr s'=>∃v,r=.done (.ret v)/\Q (some v) s') (λe s'=>True/\False) z:=by
  show wpAny _ _ (field (.ref y) 2 >>=_) _ _ _;refine Ja (wpAny_field hz rfl (x:=.bool false) rfl ?_);show wpAny _ _ (field (.ref y) 3 >>=_) _ _ _;refine Ja (wpAny_field hz rfl (x:=.ref a) rfl ?_);refine Ja (wpAny_seqItems ha rfl ?_);show wpAny _ _ (Builtin.SmallTypes.ownedTupleIsFree (.ref y) >>=_) _ _ _;refine Ja ?_;unfold Builtin.SmallTypes.ownedTupleIsFree;refine Ja (wpAny_field hz rfl (x:=.none) rfl (wpAny_pure ?_));simp only[if_true];refine Ja (wpAny_rule ?_);refine Ja (wpAny_field hz rfl (x:=.ref o) rfl ?_);refine Ja (wpAny_setField_rec hz (by simp) λg1 hz1 s1=>?_);replace hz1:IsZip g1 y a o .ellipsis:=hz1;refine Ja ?_;simp only[List.zipIdx_cons,List.zipIdx_nil,List.forIn_cons,List.forIn_nil];refine Ja (Ja (wpAny_onRaise ?_));show wpAny _ _ (Builtin.SmallTypes.nextOf (.ref i) >>=_) _ _ _;refine Ja (zf0 (hi.extBut s1.extBut D.i1z) (hp.extBut s1.extBut D.l1z) hu λg2 i2 s2=>wpAny_pure ?_);have ho2:IsPair g2 o b c:=s2.extBut _ _ D.TOi1 (s1.extBut _ _ D.TOz ho);refine Ja (wpAny_seqItems ho2 rfl ?_);refine Ja (wpAny_updateSeq_pair ho2 λg3 ho3 s3=>?_);replace ho3:IsPair g3 o u c:=ho3;refine Ja (wpAny_letGo (wpAny_pure ?_));refine Ja (Ja (wpAny_onRaise ?_));show wpAny _ _ (Builtin.SmallTypes.nextOf (.ref k) >>=_) _ _ _;refine Ja (zf0 (((hk.extBut s1.extBut D.i2z).extBut s2.extBut D.i12.symm).extBut s3.extBut D.TOi2.symm) (((hq.extBut s1.extBut D.l2z).extBut s2.extBut D.l2i1).extBut s3.extBut D.l2TO) hv λg4 k4 s4=>wpAny_pure ?_);have ho4:IsPair g4 o u c:=s4.extBut _ _ D.TOi2 ho3;refine Ja (wpAny_seqItems ho4 rfl ?_);refine Ja (wpAny_updateSeq_pair ho4 λg5 ho5 s5=>?_);replace ho5:IsPair g5 o u v:=ho5;refine Ja (wpAny_letGo (wpAny_pure (wpAny_pure ?_)));refine Ja (wpAny_seqItems ho5 rfl ?_);refine Ja (wpAny_newTuple ?_);have sz:g5.objs.size=z.heap.objs.size:=by rw[s5.1,s4.1,s3.1,s2.1,s1.1]
  have hz5:IsZip g5 y a o .ellipsis:=s5.extBut _ _ D.TOz.symm (s4.extBut _ _ D.i2z.symm (s3.extBut _ _ D.TOz.symm (s2.extBut _ _ D.i1z.symm hz1)));have up5:∀c r,c≠y->c≠o->c≠i->c≠k->z.heap.get? c=some r->g5.get? c=some r:=λc r c1 c2 c3 c4 e=>s5.extBut _ _ c2 (s4.extBut _ _ c4 (s3.extBut _ _ c2 (s2.extBut _ _ c3 (s1.extBut _ _ c1 e))));have hi5:g5.IsTupleIter i p (n+1):=((i2.extBut s3.extBut D.TOi1.symm).extBut s4.extBut D.i12).extBut s5.extBut D.TOi1.symm;have hk5:g5.IsTupleIter k q (n+1):=k4.extBut s5.extBut D.TOi2.symm;have ly:y < g5.objs.size:=Heap.lt_size hz5;show wpAny _ _ (Builtin.SmallTypes.ownedTupleHandOut (.ref y) (.ref g5.objs.size) >>=_) _ _ _;refine Ja ?_;unfold Builtin.SmallTypes.ownedTupleHandOut;have hz6:IsZip (g5.push {cls:=.type "tuple",data:=.seq #[u,v]}) y a o .ellipsis:=Heap.get?_push_of_some _ hz5;refine Ja (wpAny_setField_rec hz6 (by simp) λg7 hz7 s7=>?_);replace hz7:IsZip g7 y a o (rawInt g5.objs.size):=hz7;refine wpAny_setField_rec hz7 (by simp) λg8 hz8 s8=>?_;replace hz8:IsZip g8 y a o (rawInt g5.objs.size):=hz8;have up:∀c r,c≠y->g5.get? c=some r->g8.get? c=some r:=λc r c1 e=>s8.extBut _ _ c1 (s7.extBut _ _ c1 (Heap.get?_push_of_some _ e));have new8:IsPair g8 g5.objs.size u v:=s8.extBut _ _ (Nat.ne_of_gt ly) (s7.extBut _ _ (Nat.ne_of_gt ly) (Heap.get?_push_size _ rfl));have sz8:g8.objs.size=g5.objs.size+1:=by rw[s8.1,s7.1,Heap.size_push]
  rw[sz] at hz8 new8 sz8;refine wpAny_pure ⟨_,rfl,?_⟩;show Q (some (.ref g5.objs.size)) _;rw[sz];have upz:∀c r,c≠y->c≠o->c≠i->c≠k->z.heap.get? c=some r->g8.get? c=some r:=λc r c1 c2 c3 c4 e=>up c r c1 (up5 c r c1 c2 c3 c4 e);refine fin g8 ⟨hz8,upz _ _ D.TIz D.TITO D.TIi1 D.TIi2 ha,⟨_,_,up _ _ D.TOz ho5⟩,?_,?_,?_,?_⟩ new8 sz8 upz
  ·obtain⟨r,e,x⟩:=hi5;exact⟨r,up _ r D.i1z e,x⟩
  ·obtain⟨r,e,x⟩:=hk5;exact⟨r,up _ r D.i2z e,x⟩
  ·obtain⟨r,e,x⟩:=hp;exact⟨r,upz _ r D.l1z D.l1TO D.l1i1 D.l1i2 e,x⟩
  ·obtain⟨r,e,x⟩:=hq;exact⟨r,upz _ r D.l2z D.l2TO D.l2i1 D.l2i2 e,x⟩
 unfold pyNext;exact Ja (wpAny_attempt (wpAny_callSpecial?_slot (name:=Str.ofString "__next__") tz F.slot_zip_next (wpAny_call_entry F.slot_zip_next tz F.entry_zip_next (wpAny_mono main (λr s' ⟨v,e,h⟩=>⟨v,e,wpAny_pure h⟩) λ_ _ x=>x.2.elim) (F.args_zip_next_1 _))))
def zmq {y a o i k p q:Addr}{n:Nat}{xs us:Array Value}{Q:Option Value->Shared->Prop}(hh:A.handled=none)(D:ZipApart y a o i k p q)(S:ZSt z.heap y a o i k p q n xs us .none)(he:xs[n]? =none\/us[n]? =none)
  (fin:∀g,(∀c r,c≠y->c≠o->c≠i->c≠k->z.heap.get? c=some r->g.get? c=some r)->Q none {z with heap:=g}):wpAny (model P W) A (pyNext (.ref y)) Q E z:=by
 obtain⟨hz,ha,⟨b,c,ho⟩,hi,hk,hp,hq⟩:=S;have tz:z.TypeIs (.ref y) "zip" :=⟨_,hz,rfl⟩;have main:wpAny (model P W) A.in1 (Builtin.«zip.__next__» ⟨[.ref y],[]⟩) (λ_ _=>False) (λe s'=>∃g x,e=.ref x/\s'={z with heap:=g}/\(∀c r,c≠y->c≠o->c≠i->c≠k->z.heap.get? c=some r->g.get? c=some r)/\∃r,g.get? x=some r/\r.cls=.type "StopIteration") z:=by
  show wpAny _ _ (field (.ref y) 2 >>=_) _ _ _;refine Ja (wpAny_field hz rfl (x:=.bool false) rfl ?_);show wpAny _ _ (field (.ref y) 3 >>=_) _ _ _;refine Ja (wpAny_field hz rfl (x:=.ref a) rfl ?_);refine Ja (wpAny_seqItems ha rfl ?_);show wpAny _ _ (Builtin.SmallTypes.ownedTupleIsFree (.ref y) >>=_) _ _ _;refine Ja ?_;unfold Builtin.SmallTypes.ownedTupleIsFree;refine Ja (wpAny_field hz rfl (x:=.none) rfl (wpAny_pure ?_));simp only[if_true];refine Ja (wpAny_rule ?_);refine Ja (wpAny_field hz rfl (x:=.ref o) rfl ?_);refine Ja (wpAny_setField_rec hz (by simp) λg1 hz1 s1=>?_);replace hz1:IsZip g1 y a o .ellipsis:=hz1;refine Ja ?_;simp only[List.zipIdx_cons,List.zipIdx_nil,List.forIn_cons,List.forIn_nil];refine Ja (Ja (wpAny_onRaise ?_));show wpAny _ _ (Builtin.SmallTypes.nextOf (.ref i) >>=_) _ _ _;cases hu:xs[n]? with
  | none=>
   refine Ja (ziB (A:=A.in1) (show A.in1.handled=none from hh) (hi.extBut s1.extBut D.i1z) (hp.extBut s1.extBut D.l1z) hu λg2 e s2 he2=>?_);obtain⟨r,er,cr⟩:=he2;have hz2:IsZip g2 y a o .ellipsis:=s2 _ _ D.i1z.symm hz1;have ne:e≠y:=λx=>by subst x;rw[hz2] at er;cases er;simp at cr
   exact wpAny_setField_rec hz2 (by simp) λg3 _ s3=>⟨g3,e,rfl,rfl,λc r c1 _ c3 _ x=>s3.extBut _ _ c1 (s2 _ _ c3 (s1.extBut _ _ c1 x)),r,s3.extBut _ _ ne er,cr⟩
  | some u=>
   have hv:us[n]? =none:=he.elim (λz=>by rw[hu] at z;cases z) id;refine Ja (zf0 (hi.extBut s1.extBut D.i1z) (hp.extBut s1.extBut D.l1z) hu λg2 i2 s2=>wpAny_pure ?_);have ho2:IsPair g2 o b c:=s2.extBut _ _ D.TOi1 (s1.extBut _ _ D.TOz ho);refine Ja (wpAny_seqItems ho2 rfl ?_);refine Ja (wpAny_updateSeq_pair ho2 λg3 ho3 s3=>?_);refine Ja (wpAny_letGo (wpAny_pure ?_));refine Ja (Ja (wpAny_onRaise ?_));show wpAny _ _ (Builtin.SmallTypes.nextOf (.ref k) >>=_) _ _ _;refine Ja (ziB (A:=A.in1) (show A.in1.handled=none from hh) (((hk.extBut s1.extBut D.i2z).extBut s2.extBut D.i12.symm).extBut s3.extBut D.TOi2.symm) (((hq.extBut s1.extBut D.l2z).extBut s2.extBut D.l2i1).extBut s3.extBut D.l2TO) hv λg4 e s4 he4=>?_);obtain⟨r,er,cr⟩:=he4;have hz4:IsZip g4 y a o .ellipsis:=s4 _ _ D.i2z.symm (s3.extBut _ _ D.TOz.symm (s2.extBut _ _ D.i1z.symm hz1));have ne:e≠y:=λx=>by subst x;rw[hz4] at er;cases er;simp at cr
   exact wpAny_setField_rec hz4 (by simp) λg5 _ s5=>⟨g5,e,rfl,rfl,λc r c1 c2 c3 c4 x=>s5.extBut _ _ c1 (s4 _ _ c4 (s3.extBut _ _ c2 (s2.extBut _ _ c3 (s1.extBut _ _ c1 x)))),r,s5.extBut _ _ ne er,cr⟩
 unfold pyNext;refine Ja (wpAny_attempt (wpAny_callSpecial?_slot (name:=Str.ofString "__next__") tz F.slot_zip_next (wpAny_call_entry F.slot_zip_next tz F.entry_zip_next (wpAny_mono main (λ_ _ x=>x.elim) λe s' h=>?_) (F.args_zip_next_1 _))));obtain⟨g,x,rfl,rfl,up,r,er,cr⟩:=h;exact Ja (wpAny_isInstance (T:= "StopIteration") (b:=true) ⟨r,er,cr⟩ isSubtype_stop (wpAny_pure (fin _ up)))
abbrev tz1 (g:Heap)(p:Addr):Heap:=g.push {cls:=.type "tuple_iterator",data:=.fields #[.ref p,.int 0 0]}
abbrev tz2 (g:Heap)(p q:Addr):Heap:=(tz1 g p).push {cls:=.type "tuple_iterator",data:=.fields #[.ref q,.int 0 0]}
abbrev tz3 (g:Heap)(p q:Addr):Heap:=(tz2 g p q).push {cls:=.type "tuple",data:=.seq #[.ref g.objs.size,.ref (tz1 g p).objs.size]}
abbrev tz4 (g:Heap)(p q:Addr):Heap:=(tz3 g p q).push {cls:=.type "tuple",data:=.seq #[.none,.none]}
abbrev tz5 (g:Heap)(p q:Addr):Heap:=(tz4 g p q).push {cls:=.type "zip",data:=.fields #[.none,.bool false,.bool false,.ref (tz2 g p q).objs.size,.ref (tz3 g p q).objs.size]}
def zog {p q:Addr}{xs us:Array Value}{Q:QC}(hp:z.heap.IsTuple p xs)(hq:z.heap.IsTuple q us)
  (fin:∀g,ZSt g (z.heap.objs.size+4) (z.heap.objs.size+2) (z.heap.objs.size+3) z.heap.objs.size (z.heap.objs.size+1) p q 0 xs us .none->g.objs.size=z.heap.objs.size+5->(∀c r,z.heap.get? c=some r->g.get? c=some r)->Q (.ref (z.heap.objs.size+4)) {z with heap:=g}):
  wpAny (model P W) A (call (.type "zip") [.ref p,.ref q]) Q E z:=by
 have M:Meets (Builtin.«zip.__new__» ⟨[.type "zip",.ref p,.ref q],[]⟩) (λ_ R s=>s.heap.IsTuple p xs/\s.heap.IsTuple q us/\R (.ok (.ret (.ref (tz4 s.heap p q).objs.size))) {s with heap:=tz5 s.heap p q}):=
  .of_wp λprog w A R s h=>by
   obtain⟨hp0,g,d,tk,os⟩:=s;obtain⟨h1,h2,h⟩:=h;have hsub:=sub_zip;have L1:Heap.IsTuple (Shared.heap ⟨hp0,g,d,tk,os⟩) p xs:=h1;have L2:Heap.IsTuple (Shared.heap ⟨hp0.push {cls:=.type "tuple_iterator",data:=.fields #[.ref p,.int 0 0]},g,d,tk,os⟩) q us:=by obtain⟨r,e,x⟩:=h2;exact⟨r,Heap.get?_push_of_some _ e,x⟩
   wp_walk using wpAny_pyIter_tuple L1,wpAny_pyIter_tuple L2
   exact⟨_,rfl,h⟩
 have n1:(tz1 z.heap p).objs.size=z.heap.objs.size+1:=Heap.size_push ..;have n2:(tz2 z.heap p q).objs.size=z.heap.objs.size+2:=by rw[Heap.size_push,n1]
 have n3:(tz3 z.heap p q).objs.size=z.heap.objs.size+3:=by rw[Heap.size_push,n2]
 have n4:(tz4 z.heap p q).objs.size=z.heap.objs.size+4:=by rw[Heap.size_push,n3]
 have n5:(tz5 z.heap p q).objs.size=z.heap.objs.size+5:=by rw[Heap.size_push,n4]
 have a5:(tz5 z.heap p q).get? (tz4 z.heap p q).objs.size=some _:=Heap.get?_push_size _ rfl;have a4:(tz5 z.heap p q).get? (tz3 z.heap p q).objs.size=some _:=Heap.get?_push_of_some _ (Heap.get?_push_size _ rfl);have a3:(tz5 z.heap p q).get? (tz2 z.heap p q).objs.size=some _:=Heap.get?_push_of_some _ (Heap.get?_push_of_some _ (Heap.get?_push_size _ rfl));have a2:(tz5 z.heap p q).get? (tz1 z.heap p).objs.size=some _:=Heap.get?_push_of_some _ (Heap.get?_push_of_some _ (Heap.get?_push_of_some _ (Heap.get?_push_size _ rfl)));have a1:(tz5 z.heap p q).get? z.heap.objs.size=some _:=Heap.get?_push_of_some _ (Heap.get?_push_of_some _ (Heap.get?_push_of_some _ (Heap.get?_push_of_some _ (Heap.get?_push_size _ rfl))));have up:∀c r,z.heap.get? c=some r->(tz5 z.heap p q).get? c=some r:=λc r x=>Heap.get?_push_of_some _ (Heap.get?_push_of_some _ (Heap.get?_push_of_some _ (Heap.get?_push_of_some _ (Heap.get?_push_of_some _ x))));rw[n2,n3,n4] at a5;rw[n1,n2] at a3;rw[n3] at a4;rw[n1] at a2;refine callType_new F.called_zip (by decide) (F.typeCall_zip_2 _ _) (F.newCall_zip_2 _ _) (λobj=>F.args_object_init_3 obj _ _) F.entry_zip_new M ⟨hp,hq,?_⟩;show _/\_;rw[n4];refine⟨⟨_,a5,rfl⟩,fin _ ⟨a5,a3,⟨_,_,a4⟩,⟨_,a1,rfl,rfl⟩,⟨_,a2,rfl,rfl⟩,?_,?_⟩ n5 up⟩
 ·obtain⟨r,e,x⟩:=hp;exact⟨r,up _ _ e,x⟩
 ·obtain⟨r,e,x⟩:=hq;exact⟨r,up _ _ e,x⟩
end
structure ZI (g:Heap)(y a o i k p q:Addr)(n:Nat)(f:Value):Prop where
 zp:IsZip g y a o f
 its:IsPair g a (.ref i) (.ref k)
 own:∃b c,IsPair g o b c
 i1:g.IsTupleIter i p n
 i2:g.IsTupleIter k q n
def ZSt.zi {g:Heap}{y a o i k p q:Addr}{n:Nat}{xs us:Array Value}{f:Value}(S:ZSt g y a o i k p q n xs us f):ZI g y a o i k p q n f:=⟨S.zp,S.its,S.own,S.i1,S.i2⟩
def Itz (K:QA)(p q:Addr)(xs us:QQ):It:=
 ⟨λn H=>SqT K H p xs/\SqT K H q us/\n < min xs.length us.length,λn H v H'=>∃(T:Addr) (x u:V),H T=none/\xs[n]? =some x/\us[n]? =some u/\v=.ref T/\H'=upd H T (.tup [x,u]),λn H=>SqT K H p xs/\SqT K H q us/\min xs.length us.length<=n⟩
def zmN {P:Program}{w:World}{K:QA}{elts:List Expr}{x1:Nat}{tpos:Pos}{y a o i k p q:Addr}{xs us:QQ}(D:ZipApart y a o i k p q):
  Turn P w K (.Tuple elts x1 tpos) (Itz K p q xs us) [y,a,o,i,k] y (λn h=>ZI h y a o i k p q n .none) where
 mem:=by simp
 obj:=λn h st b hb=>by
  obtain⟨hz,ha,⟨b1,b2,ho⟩,⟨r1,e1,_,d1⟩,⟨r2,e2,_,d2⟩⟩:=st;simp only[List.mem_cons,List.not_mem_nil,or_false] at hb;rcases hb with rfl | rfl | rfl | rfl | rfl
  ·exact⟨_,hz,λv z=>by cases z⟩
  ·exact⟨_,ha,λv z=>by cases z⟩
  ·exact⟨_,ho,λv z=>by cases z⟩
  ·exact⟨_,e1,λv z=>by rw[d1] at z;cases z⟩
  ·exact⟨_,e2,λv z=>by rw[d2] at z;cases z⟩
 keep:=λn h h' st kp=>by obtain⟨hz,ha,⟨b1,b2,ho⟩,⟨r1,e1,x1⟩,⟨r2,e2,x2⟩⟩:=st;exact⟨kp y (by simp) _ hz,kp a (by simp) _ ha,⟨b1,b2,kp o (by simp) _ ho⟩,⟨r1,kp i (by simp) _ e1,x1⟩,⟨r2,kp k (by simp) _ e2,x2⟩⟩
 item:=by
  intro X hP hw hK hc n pins s σ H E I hf st hg;subst hP hw hK;obtain⟨hp,hq,hn⟩:=hg;obtain⟨its,r1,T1,z1⟩:=I.tuple hp;obtain⟨jts,r2,T2,z2⟩:=I.tuple hq;have hx:xs[n]? =some xs[n]:=List.getElem?_eq_getElem (by omega);have hu:us[n]? =some us[n]:=List.getElem?_eq_getElem (by omega);obtain⟨v1,e1,q1⟩:=r1.get hx;obtain⟨v2,e2,q2⟩:=r2.get hu;have fy:=hf y (by simp);have fa:=hf a (by simp);have fo:=hf o (by simp);have fi:=hf i (by simp);have fk:=hf k (by simp);have S:ZSt s.heap y a o i k p q n its.toArray jts.toArray .none:=⟨st.zp,st.its,st.own,st.i1,st.i2,T1,T2⟩;refine zn6 D S (u:=v1) (v:=v2) (by simpa using e1) (by simpa using e2) λg Sg new sz up=>?_;have hT:H s.heap.objs.size=none:=I.hok.fresh (Jb _);have inch:∀{b:Addr},H b≠none->b≠y/\b≠o/\b≠i/\b≠k:=λ{b} h=>⟨λz=>h (by rw[z];exact fy.1),λz=>h (by rw[z];exact fo.1),λz=>h (by rw[z];exact fi.1),λz=>h (by rw[z];exact fk.1)⟩;have hok:HOk X.prog X.w (upd H s.heap.objs.size (.tup [xs[n],us[n]])) g:=λb u e=>by
   by_cases hb:b=s.heap.objs.size
   ·subst hb;rw[zg] at e;cases e;refine⟨by simp only[List.length_cons,List.length_nil];rw[sizeLine_eq];decide,[v1,v2],.cons q1 (.cons q2 .nil),⟨_,new,rfl,_,rfl⟩⟩
   ·rw[zk hb] at e;refine(I.hok b u e).stay (λc r hc q=>?_) (λc q=>by rw[zk (zm q hT)];exact q) λc ys q=>by rw[zk (zm q hT)];exact q
    have hne:H c≠none:=by
     rcases hc with rfl | hc
     ·rw[e];intro z;cases z
     ·rw[hc];intro z;cases z
    obtain⟨c1,c2,c3,c4⟩:=inch hne;exact up c r c1 c2 c3 c4 q
  have I1:Inv X pins σ (upd H s.heap.objs.size (.tup [xs[n],us[n]])) {s with heap:=g}:=by
   refine I.step (g':=s.gens) (d':=s.drawn) (t':=s.toks) (ch:=[y,o,i,k]) (λb hb=>?_) (λb r _ _ hc e _=>?_) (λb r _ _ hc e _=>⟨r.slots,?_⟩) (λb r hc e hn=>?_) (λb r hc e=>⟨r,?_⟩) (λb ys e=>by rw[zk (zm e hT)];exact e)
    (λb r ys e=>by rw[zk (zm e hT)];exact e) (λb ps e=>⟨#[],by rw[zk (zm e hT),e];simp⟩) (λm hm=>?_) hok I.bare
   ·simp only[List.mem_cons,List.not_mem_nil,or_false] at hb;rcases hb with rfl | rfl | rfl | rfl
    ·exact⟨fy.2.2.2.1,fy.2.1,fy.2.2.2.2.1,fy.2.2.2.2.2⟩
    ·exact⟨fo.2.2.2.1,fo.2.1,fo.2.2.2.2.1,fo.2.2.2.2.2⟩
    ·exact⟨fi.2.2.2.1,fi.2.1,fi.2.2.2.2.1,fi.2.2.2.2.2⟩
    ·exact⟨fk.2.2.2.1,fk.2.1,fk.2.2.2.2.1,fk.2.2.2.2.2⟩
   ·simp only[List.mem_cons,List.not_mem_nil,or_false,not_or] at hc;exact up b r hc.1 hc.2.1 hc.2.2.1 hc.2.2.2 e
   ·simp only[List.mem_cons,List.not_mem_nil,or_false,not_or] at hc;exact up b r hc.1 hc.2.1 hc.2.2.1 hc.2.2.2 e
   ·rw[zk (Jl (Heap.lt_size e))];exact hn
   ·simp only[List.mem_cons,List.not_mem_nil,or_false,not_or] at hc;exact up b r hc.1 hc.2.1 hc.2.2.1 hc.2.2.2 e
   ·obtain⟨r,es,ep,er,d⟩:=hm;exact⟨r,es,ep,up _ r (Ne.symm fy.2.1) (Ne.symm fo.2.1) (Ne.symm fi.2.1) (Ne.symm fk.2.1) er,d⟩
  have hfp:∀b∈ [y,a,o,i,k],upd H s.heap.objs.size (.tup [xs[n],us[n]]) b=none:=λb hb=>by
   have fb:=hf b hb;have lt:b < s.heap.objs.size:=by
    obtain⟨hz,ha,⟨b1,b2,ho⟩,⟨r1,e1,_⟩,⟨r2,e2,_⟩⟩:=st;simp only[List.mem_cons,List.not_mem_nil,or_false] at hb;rcases hb with rfl | rfl | rfl | rfl | rfl
    ·exact Heap.lt_size hz
    ·exact Heap.lt_size ha
    ·exact Heap.lt_size ho
    ·exact Heap.lt_size e1
    ·exact Heap.lt_size e2
   rw[zk (Jl lt)];exact fb.1
  refine⟨_,rfl,wpAny_letOwnedTupleGo_zip Sg.zp λg2 hz2 s2=>?_⟩;refine⟨.ref s.heap.objs.size,_,I1.turned (it:=y) (t':=s.toks) (λb r hb e=>s2.extBut _ _ hb e) (hfp y (by simp)) fy.2.1 fy.2.2.2.1 fy.2.2.2.2.1 fy.2.2.2.2.2,rfl,⟨_,_,_,hT,hx,hu,rfl,rfl⟩,⟨hz2,s2.extBut _ _ D.TIz Sg.its,?_,Sg.i1.extBut s2.extBut D.i1z,Sg.i2.extBut s2.extBut D.i2z⟩,hfp⟩;obtain⟨b1,b2,ho⟩:=Sg.own;exact⟨b1,b2,s2.extBut _ _ D.TOz ho⟩
 done:=by
  intro X hP hw hK hc n pins s σ H E I hf st hg;subst hP hw hK;obtain⟨hp,hq,hn⟩:=hg;obtain⟨its,r1,T1,z1⟩:=I.tuple hp;obtain⟨jts,r2,T2,z2⟩:=I.tuple hq;have fy:=hf y (by simp);have fo:=hf o (by simp);have fi:=hf i (by simp);have fk:=hf k (by simp);have S:ZSt s.heap y a o i k p q n its.toArray jts.toArray .none:=⟨st.zp,st.its,st.own,st.i1,st.i2,T1,T2⟩;have l1:=r1.length;have l2:=r2.length;have he:its.toArray[n]? =none\/jts.toArray[n]? =none:=by
   by_cases h:xs.length<=n
   ·exact .inl (by simp;omega)
   ·exact .inr (by simp;omega)
  refine zmq (I.ok.hd hc) D S he λg up=>⟨rfl,?_⟩;have inch:∀{b:Addr},H b≠none->b≠y/\b≠o/\b≠i/\b≠k:=λ{b} h=>⟨λz=>h (by rw[z];exact fy.1),λz=>h (by rw[z];exact fo.1),λz=>h (by rw[z];exact fi.1),λz=>h (by rw[z];exact fk.1)⟩;refine I.step (g':=s.gens) (d':=s.drawn) (t':=s.toks) (ch:=[y,o,i,k]) (λb hb=>?_) (λb r _ _ hc e _=>?_) (λb r _ _ hc e _=>⟨r.slots,?_⟩) (λb r hc e hn=>hn) (λb r hc e=>⟨r,?_⟩) (λb ys e=>e) (λb r ys e=>e) (λb ps e=>⟨#[],by rw[e];simp⟩) (λm hm=>?_) (λb u e=>?_) I.bare
  ·simp only[List.mem_cons,List.not_mem_nil,or_false] at hb;rcases hb with rfl | rfl | rfl | rfl
   ·exact⟨fy.2.2.2.1,fy.2.1,fy.2.2.2.2.1,fy.2.2.2.2.2⟩
   ·exact⟨fo.2.2.2.1,fo.2.1,fo.2.2.2.2.1,fo.2.2.2.2.2⟩
   ·exact⟨fi.2.2.2.1,fi.2.1,fi.2.2.2.2.1,fi.2.2.2.2.2⟩
   ·exact⟨fk.2.2.2.1,fk.2.1,fk.2.2.2.2.1,fk.2.2.2.2.2⟩
  ·simp only[List.mem_cons,List.not_mem_nil,or_false,not_or] at hc;exact up b r hc.1 hc.2.1 hc.2.2.1 hc.2.2.2 e
  ·simp only[List.mem_cons,List.not_mem_nil,or_false,not_or] at hc;exact up b r hc.1 hc.2.1 hc.2.2.1 hc.2.2.2 e
  ·simp only[List.mem_cons,List.not_mem_nil,or_false,not_or] at hc;exact up b r hc.1 hc.2.1 hc.2.2.1 hc.2.2.2 e
  ·obtain⟨r,es,ep,er,d⟩:=hm;exact⟨r,es,ep,up _ r (Ne.symm fy.2.1) (Ne.symm fo.2.1) (Ne.symm fi.2.1) (Ne.symm fk.2.1) er,d⟩
  ·refine(I.hok b u e).stay (λc r hc q=>?_) (λ_ q=>q) λ_ _ q=>q;have hne:H c≠none:=by
    rcases hc with rfl | hc
    ·rw[e];intro z;cases z
    ·rw[hc];intro z;cases z
   obtain⟨c1,c2,c3,c4⟩:=inch hne;exact up c r c1 c2 c3 c4 q
 self:=λ_ _ _ _ _ st h=>wpAny_pyIter_zip st.zp h
def zq4 (n p q:Nat)(h1:p < n)(h2:q < n):ZipApart (n+4) (n+2) (n+3) n (n+1) p q where
 TIz:=show(n+2:Nat)≠n+4 by omega
 TOz:=show(n+3:Nat)≠n+4 by omega
 i1z:=show(n:Nat)≠n+4 by omega
 i2z:=show(n+1:Nat)≠n+4 by omega
 TITO:=show(n+2:Nat)≠n+3 by omega
 TIi1:=show(n+2:Nat)≠n by omega
 TIi2:=show(n+2:Nat)≠n+1 by omega
 TOi1:=show(n+3:Nat)≠n by omega
 TOi2:=show(n+3:Nat)≠n+1 by omega
 i12:=show(n:Nat)≠n+1 by omega
 l1z:=show(p:Nat)≠n+4 by omega
 l1TO:=show(p:Nat)≠n+3 by omega
 l1i1:=show(p:Nat)≠n by omega
 l1i2:=show(p:Nat)≠n+1 by omega
 l2z:=show(q:Nat)≠n+4 by omega
 l2TO:=show(q:Nat)≠n+3 by omega
 l2i1:=show(q:Nat)≠n by omega
 l2i2:=show(q:Nat)≠n+1 by omega
section
variable {X:Cx}
def iZip (K:QA)(ta:TA):TI:=fun σ H R=>ta σ H λvs H1=>∃(p q:Addr) (xs us:QQ),vs=[.ref p,.ref q]/\SqT K H1 p xs/\SqT K H1 q us/\R (Itz K p q xs us) H1
noncomputable abbrev _root_.JC:=@Nat.le_add_right
def zqq {elts:List Expr}{x1:Nat}{tpos:Pos}{a b:Expr}{ta:TA}{p pos:Pos}(hg:Gl X "zip") (hm:X.mg "zip" =none) (ha:PA X [a,b] ta) (hs:starEach [a,b] X.env=[(false,eval a X.env),(false,eval b X.env)]:=by rfl) (hs2:starEach [b] X.env=[(false,eval b X.env)]:=by rfl):
  PI X (.Tuple elts x1 tpos) (.Call (.Name "zip" p) [a,b] [] pos) (iZip X.K ta):=by
 intro pins s σ H R I h;refine Call_ (zda I hg hm (u:=.type "zip") (by rfl) (PyProof.Rows.callWith_type1 (thn (ha pos pins s σ H _ I h) λus s1 ⟨vs,H1,I1,r1,q1⟩=>?_) (by rw[hs,hs2]) (by rw[hs2];rfl)));obtain⟨p1,p2,xs,ys,rfl,hp,hq,q⟩:=q1;obtain⟨u,w',rfl,ru,rw'⟩:=vals2 r1;cases (show u=Value.ref _ from ru);cases (show w'=Value.ref _ from rw');obtain⟨its,r1,T1,z1⟩:=I1.tuple hp;obtain⟨jts,r2,T2,z2⟩:=I1.tuple hq;refine zog T1 T2 λg S sz up=>wpAny_pyIter_zip S.zp ?_;have lt1:p1 < s1.heap.objs.size:=by obtain⟨r,e,_⟩:=T1;exact Heap.lt_size e
 have lt2:p2 < s1.heap.objs.size:=by obtain⟨r,e,_⟩:=T2;exact Heap.lt_size e
 refine⟨_,_,_,_,H1,rfl,I1.kept (t':=s1.toks) up,zmN (zq4 _ _ _ lt1 lt2),S.zi,λb hb=>?_,q⟩;have hb':s1.heap.objs.size<=b:=by
  simp only[List.mem_cons,List.not_mem_nil,or_false] at hb;rcases hb with rfl | rfl | rfl | rfl | rfl
  ·exact JC _ _
  ·exact JC _ _
  ·exact JC _ _
  ·exact Jb _
  ·exact JC _ _
 exact I1.fpOk hb' (I1.hok.fresh hb')
def zo1 {K:QA}{p q:Addr}{xs us:QQ}{g:TG}{tb:TS}{D:Ends}{σ:St}{H:Hp}(Pv:Nat->St->Hp->Prop)(h0:Pv 0 σ H)(hl:∀i σ H,Pv i σ H->SqT K H p xs/\SqT K H q us)
  (hs:∀i x u T σ H,xs[i]? =some x->us[i]? =some u->H T=none->Pv i σ H->g (.ref T) σ (upd H T (.tup [x,u])) fun σ2 H2=>tb {D with nx:=Pv (i+1),ct:=Pv (i+1),bk:=D.nx} σ2 H2) (hd:∀σ H,Pv (min xs.length us.length) σ H->D.nx σ H):
  ∃W:Nat->Nat->St->Hp->Prop,(∃m,W 0 m σ H)/\∀i m σ H,W i m σ H->
   ((Itz K p q xs us).stop i H/\D.nx σ H)\/((Itz K p q xs us).go i H/\∃N:St->Hp->Prop,(∀σ' H',N σ' H'->∃m',m' < m/\W (i+1) m' σ' H')/\∀x H',(Itz K p q xs us).yld i H x H'->g x σ H' fun σ2 H2=>tb {D with nx:=N,ct:=N,bk:=D.nx} σ2 H2):=by
 refine⟨λi m σ H=>m=min xs.length us.length - i/\i<=min xs.length us.length/\Pv i σ H,⟨_,rfl,Nat.zero_le _,h0⟩,?_⟩;rintro i m σ H ⟨rfl,hi,p⟩;have q:=hl i σ H p;by_cases hlt:i < min xs.length us.length
 ·refine .inr ⟨⟨q.1,q.2,hlt⟩,Pv (i+1),fun σ' H' p'=>⟨_,by omega,rfl,hlt,p'⟩,λx H' y=>?_⟩;obtain⟨T,a,b,hT,e1,e2,rfl,rfl⟩:=y;exact hs i a b T σ H e1 e2 hT p
 ·have e:i=min xs.length us.length:=by omega
  subst e;exact .inl ⟨⟨q.1,q.2,Jb _⟩,hd σ H p⟩
end
end L2
namespace Pv
open PySem L2
mutual
def eqT:Th->Th->Bool
 | .non,.non=>true
 | .int a,.int b=>a==b
 | .str a,.str b=>a==b
 | .tup a,.tup b=>eqL a b
 | _,_=>false
def eqL:List Th->List Th->Bool
 | [],[]=>true
 | t::r,u::q=>eqT t u && eqL r q
 | _,_=>false
end
mutual
theorem za8:∀t u:Th,eqT t u=true↔t=u
 | .non,.non=>by simp[eqT]
 | .non,.int _=>by simp[eqT]
 | .non,.str _=>by simp[eqT]
 | .non,.tup _=>by simp[eqT]
 | .int _,.non=>by simp[eqT]
 | .int a,.int b=>by simp[eqT]
 | .int _,.str _=>by simp[eqT]
 | .int _,.tup _=>by simp[eqT]
 | .str _,.non=>by simp[eqT]
 | .str _,.int _=>by simp[eqT]
 | .str a,.str b=>by simp[eqT]
 | .str _,.tup _=>by simp[eqT]
 | .tup _,.non=>by simp[eqT]
 | .tup _,.int _=>by simp[eqT]
 | .tup _,.str _=>by simp[eqT]
 | .tup a,.tup b=>by have:=zeD a b;simp[eqT,this]
theorem zeD:∀a b:List Th,eqL a b=true↔a=b
 | [],[]=>by simp[eqL]
 | [],_::_=>by simp[eqL]
 | _::_,[]=>by simp[eqL]
 | t::r,u::q=>by have h1:=za8 t u;have h2:=zeD r q;simp[eqL,h1,h2]
end
theorem zaO (t:Th):eqT t t=true:=(za8 t t).mpr rfl
theorem zdK:∀a b:List Th,eqL a b=((List.range (min a.length b.length)).all (λj=>eqT (a[j]?.getD .non) (b[j]?.getD .non)) && a.length==b.length)
 | [],[]=>rfl
 | [],_::_=>by simp[eqL]
 | _::_,[]=>by simp[eqL]
 | t::r,u::q=>by
  have h:=zdK r q;show(eqT t u && eqL r q)=_;rw[h,List.length_cons,List.length_cons,Nat.succ_min_succ,List.range_succ_eq_map,List.all_cons,List.all_map];have e:(λj=>eqT ((t::r)[j]?.getD .non) ((u::q)[j]?.getD .non)) ∘ Nat.succ=λj=>eqT (r[j]?.getD .non) (q[j]?.getD .non):=by funext j;simp
  rw[e];have e2:(r.length+1==q.length+1)=(r.length==q.length):=by rw[Bool.eq_iff_iff];simp
  rw[e2,Bool.and_assoc]
  rfl
theorem Rep.inj {H:Hp}{t u:Th}{v:V}(r:Rep H t v)(q:Rep H u v):t=u:=by
 induction r generalizing u with
 | non=>cases q;rfl
 | int i=>cases q;rfl
 | str x=>cases q;rfl
 | @tup a xs ts e l h ih=>
  cases q with
  | @tup _ ys us e' l' h'=>
   rw[e] at e';cases e';refine congrArg Th.tup (List.ext_getElem? λi=>?_);by_cases hi:i < xs.length
   ·have h1:ts[i]? =some ts[i]:=List.getElem?_eq_getElem (by omega);have h2:us[i]? =some us[i]:=List.getElem?_eq_getElem (by omega);rw[h1,h2,ih i xs[i] ts[i] (List.getElem?_eq_getElem hi) h1 (h' i xs[i] us[i] (List.getElem?_eq_getElem hi) h2)]
   ·rw[List.getElem?_eq_none (by omega),List.getElem?_eq_none (by omega)]
open PySem.SeqAt in
section
variable {X:Cx}{pins:QE}{σ:L2.St}{H:Hp}{s:Shared}
def ziR (I:Inv X pins σ H s){a b:Addr}{xs ys:QQ}{ts us:List Th}{A:Around}(e:H a=some (.tup xs))(e':H b=some (.tup ys))(l:xs.length=ts.length)(l':ys.length=us.length)
  (ih:∀(j:Nat) (x y:V) (t u:Th) (vx vy:Value),xs[j]? =some x->ys[j]? =some y->ts[j]? =some t->us[j]? =some u->RelV x vx->RelV y vy->EqAt A.in1 s vx vy (eqT t u)):
  ∃its jts:List Value,s.heap.IsTuple a its.toArray/\s.heap.IsTuple b jts.toArray/\its.length=ts.length/\jts.length=us.length/\
   ∀j (h1:j < its.toArray.size) (h2:j < jts.toArray.size),EqAt A.in1 s its.toArray[j] jts.toArray[j] (eqT (ts[j]?.getD .non) (us[j]?.getD .non)):=by
 obtain⟨its,r1,T1,_⟩:=I.tuple (SqT.of e);obtain⟨jts,r2,T2,_⟩:=I.tuple (SqT.of e');have n1:=r1.length;have n2:=r2.length;refine⟨its,jts,T1,T2,by omega,by omega,λj h1 h2=>?_⟩;have h1':j < its.length:=by simpa using h1
 have h2':j < jts.length:=by simpa using h2
 obtain⟨vx,ex,rx⟩:=r1.get (List.getElem?_eq_getElem (show j < xs.length by omega));obtain⟨vy,ey,ry⟩:=r2.get (List.getElem?_eq_getElem (show j < ys.length by omega));have g1:ts[j]? =some ts[j]:=List.getElem?_eq_getElem (by omega);have g2:us[j]? =some us[j]:=List.getElem?_eq_getElem (by omega);have q:=ih j _ _ _ _ vx vy (List.getElem?_eq_getElem (show j < xs.length by omega)) (List.getElem?_eq_getElem (show j < ys.length by omega)) g1 g2 rx ry;rw[g1,g2];have z1:its.toArray[j]=vx:=by have:its[j]? =some its[j]:=List.getElem?_eq_getElem h1';rw[this] at ex;simpa using Option.some.inj ex
 have z2:jts.toArray[j]=vy:=by have:jts[j]? =some jts[j]:=List.getElem?_eq_getElem h2';rw[this] at ey;simpa using Option.some.inj ey
 rw[z1,z2];exact q
def zjO (I:Inv X pins σ H s){t:Th}{x:V}(r:Rep H t x):∀{u:Th} {y:V} {vx vy:Value} {A:Around},Rep H u y->RelV x vx->RelV y vy->A.units+dep t+1 < cLine->EqAt A s vx vy (eqT t u):=by
 induction r with
 | non=>
  intro u y vx vy A q rx ry hu;cases (show vx=Value.none from rx);cases q with
  | non=>cases (show vy=Value.none from ry);exact EqAt.same _
  | int i=>obtain⟨k,rfl⟩:=ry;exact EqAt.none_int i k
  | str z=>obtain⟨k,rfl⟩:=ry;exact EqAt.none_str z k
  | tup e l h=>cases (show vy=Value.ref _ from ry);obtain⟨its,_,T,_⟩:=I.tuple (SqT.of e);exact EqAt.none_tuple T (by omega)
 | int a=>
  intro u y vx vy A q rx ry hu;obtain⟨k1,rfl⟩:=rx;cases q with
  | non=>cases (show vy=Value.none from ry);exact EqAt.int_none a k1
  | int i=>obtain⟨k,rfl⟩:=ry;exact EqAt.int_int a k1 i k
  | str z=>obtain⟨k,rfl⟩:=ry;exact EqAt.int_str a k1 z k
  | tup e l h=>cases (show vy=Value.ref _ from ry);obtain⟨its,_,T,_⟩:=I.tuple (SqT.of e);exact EqAt.int_tuple a k1 T (by omega)
 | str a=>
  intro u y vx vy A q rx ry hu;obtain⟨k1,rfl⟩:=rx;cases q with
  | non=>cases (show vy=Value.none from ry);exact EqAt.str_none a k1
  | int i=>obtain⟨k,rfl⟩:=ry;exact EqAt.str_int a k1 i k
  | str z=>obtain⟨k,rfl⟩:=ry;exact EqAt.str_str a k1 z k
  | tup e l h=>cases (show vy=Value.ref _ from ry);obtain⟨its,_,T,_⟩:=I.tuple (SqT.of e);exact EqAt.str_tuple a k1 T (by omega)
 | @tup a xs ts e l h ih=>
  intro u y vx vy A q rx ry hu;cases (show vx=Value.ref a from rx);cases q with
  | non=>cases (show vy=Value.none from ry);obtain⟨its,_,T,_⟩:=I.tuple (SqT.of e);exact EqAt.tuple_none T (by omega)
  | int i=>obtain⟨k,rfl⟩:=ry;obtain⟨its,_,T,_⟩:=I.tuple (SqT.of e);exact EqAt.tuple_int i k T (by omega)
  | str z=>obtain⟨k,rfl⟩:=ry;obtain⟨its,_,T,_⟩:=I.tuple (SqT.of e);exact EqAt.tuple_str z k T (by omega)
  | @tup b ys us e' l' h'=>
   cases (show vy=Value.ref b from ry);by_cases hab:a=b
   ·subst hab;have z:=Rep.inj (Rep.tup e l h) (Rep.tup e' l' h');rw[<-z,zaO];exact EqAt.same _
   ·have hd:dep (.tup ts)=depL ts+1:=rfl;obtain⟨its,jts,T1,T2,n1,n2,q⟩:=ziR (A:=A) I e e' l l' λj x y t u vx vy h1 h2 h3 h4 rx ry=>ih j x t h1 h3 (h' j y u h2 h4) rx ry (by
     have:=zck h3;show A.units+1+dep t+1 < cLine;omega)
    have R:=RcAt.tuples T1 T2 (show A.units < cLine by omega) q;have e3:((List.range (min its.toArray.size jts.toArray.size)).all (λj=>eqT (ts[j]?.getD .non) (us[j]?.getD .non)) && its.toArray.size==jts.toArray.size)=eqT (.tup ts) (.tup us):=by show _=eqL ts us;rw[zdK,List.size_toArray,List.size_toArray,n1,n2]
    rw[e3] at R;exact EqAt.of_refs hab R
def rc_T (I:Inv X pins σ H s){t u:Th}{x y:V}{vx vy:Value}{A:Around}(r:Rep H t x)(q:Rep H u y)(rx:RelV x vx)(ry:RelV y vy)(hu:A.units+dep t+1 < cLine):RcAt A s vx vy (eqT t u)/\RcNeAt A s vx vy (!eqT t u):=by
 cases r with
 | non=>
  cases (show vx=Value.none from rx);cases q with
  | non=>cases (show vy=Value.none from ry);exact⟨RcAt.none_none,RcNeAt.none_none⟩
  | int i=>obtain⟨k,rfl⟩:=ry;exact⟨RcAt.none_int i k,RcNeAt.none_int i k⟩
  | str z=>obtain⟨k,rfl⟩:=ry;exact⟨RcAt.none_str z k,RcNeAt.none_str z k⟩
  | tup e l h=>cases (show vy=Value.ref _ from ry);obtain⟨its,_,T,_⟩:=I.tuple (SqT.of e);exact⟨RcAt.none_tuple T (by omega),RcNeAt.none_tuple T (by omega)⟩
 | int a=>
  obtain⟨k1,rfl⟩:=rx;cases q with
  | non=>cases (show vy=Value.none from ry);exact⟨RcAt.int_none a k1,RcNeAt.int_none a k1⟩
  | int i=>obtain⟨k,rfl⟩:=ry;exact⟨RcAt.int_int a k1 i k,RcNeAt.int_int a k1 i k⟩
  | str z=>obtain⟨k,rfl⟩:=ry;exact⟨RcAt.int_str a k1 z k,RcNeAt.int_str a k1 z k⟩
  | tup e l h=>cases (show vy=Value.ref _ from ry);obtain⟨its,_,T,_⟩:=I.tuple (SqT.of e);exact⟨RcAt.int_tuple a k1 T (by omega),RcNeAt.int_tuple a k1 T (by omega)⟩
 | str a=>
  obtain⟨k1,rfl⟩:=rx;cases q with
  | non=>cases (show vy=Value.none from ry);exact⟨RcAt.str_none a k1,RcNeAt.str_none a k1⟩
  | int i=>obtain⟨k,rfl⟩:=ry;exact⟨RcAt.str_int a k1 i k,RcNeAt.str_int a k1 i k⟩
  | str z=>obtain⟨k,rfl⟩:=ry;exact⟨RcAt.str_str a k1 z k,RcNeAt.str_str a k1 z k⟩
  | tup e l h=>cases (show vy=Value.ref _ from ry);obtain⟨its,_,T,_⟩:=I.tuple (SqT.of e);exact⟨RcAt.str_tuple a k1 T (by omega),RcNeAt.str_tuple a k1 T (by omega)⟩
 | @tup a xs ts e l h=>
  cases (show vx=Value.ref a from rx);cases q with
  | non=>cases (show vy=Value.none from ry);obtain⟨its,_,T,_⟩:=I.tuple (SqT.of e);exact⟨RcAt.tuple_none T (by omega),RcNeAt.tuple_none T (by omega)⟩
  | int i=>obtain⟨k,rfl⟩:=ry;obtain⟨its,_,T,_⟩:=I.tuple (SqT.of e);exact⟨RcAt.tuple_int i k T (by omega),RcNeAt.tuple_int i k T (by omega)⟩
  | str z=>obtain⟨k,rfl⟩:=ry;obtain⟨its,_,T,_⟩:=I.tuple (SqT.of e);exact⟨RcAt.tuple_str z k T (by omega),RcNeAt.tuple_str z k T (by omega)⟩
  | @tup b ys us e' l' h'=>
   cases (show vy=Value.ref b from ry);have hd:dep (.tup ts)=depL ts+1:=rfl;obtain⟨its,jts,T1,T2,n1,n2,q⟩:=ziR (A:=A) I e e' l l' λj x y t u vx vy h1 h2 h3 h4 rx ry=>zjO I (h j x t h1 h3) (h' j y u h2 h4) rx ry (by
     have:=zck h3;show A.units+1+dep t+1 < cLine;omega)
   have e3:((List.range (min its.toArray.size jts.toArray.size)).all (λj=>eqT (ts[j]?.getD .non) (us[j]?.getD .non)) && its.toArray.size==jts.toArray.size)=eqT (.tup ts) (.tup us):=by show _=eqL ts us;rw[zdK,List.size_toArray,List.size_toArray,n1,n2]
   have R:=RcAt.tuples T1 T2 (show A.units < cLine by omega) q;have R':=RcNeAt.tuples T1 T2 (show A.units < cLine by omega) q;rw[e3] at R R';exact⟨R,R'⟩
end
section
variable {X:Cx}
def zfK {k:Nat}(hr:Room k X.A):OpR X (compareOp .Eq) (λx y H Q=>∃t u,Rep H t x/\Rep H u y/\dep t<=50/\Q (.bl (eqT t u)) H):=by intro pins s σ H x y v w Q I rx ry h;obtain⟨t,u,r1,r2,hd,q⟩:=h;have hu:=hr.units;exact(rc_T I r1 r2 rx ry (by omega)).1 _ _ _ _ ⟨.bl _,H,I,rfl,q⟩
def zei {k:Nat}(hr:Room k X.A):OpR X (compareOp .NotEq) (λx y H Q=>∃t u,Rep H t x/\Rep H u y/\dep t<=50/\Q (.bl (!eqT t u)) H):=by intro pins s σ H x y v w Q I rx ry h;obtain⟨t,u,r1,r2,hd,q⟩:=h;have hu:=hr.units;exact(rc_T I r1 r2 rx ry (by omega)).2 _ _ _ _ ⟨.bl _,H,I,rfl,q⟩
end
end Pv
namespace L2
open PySem PySem.Spec PyProof.Rows
section
open PySem.SeqAt
open PySem.AutoSeq1 (wpAny_loadPart')
open PySem.MeetsSeq PySem.MeetsSeq2 PySem.MeetsSeq3
end
section
variable {X:Cx}
end
section
open PySem.AutoSeq1 (wpAny_loadPart')
end
section
variable {X:Cx}
end
end L2
namespace Pv
open PySem L2
theorem szL {n:Nat}(h:n<=100000):n<=sizeLine:=Jk h (by rw[sizeLine_eq];decide)
def zdG {J:It}{n:Nat}{σ:St}{js:List Nat}{tt:TT}{te:TE}{Q:VK}{H1:Hp}{p:Addr}(Pv:Nat->List V->Hp->Prop)(h0:Pv 0 [] (upd H1 p (.lst [])))
  (hg:∀i acc H,i < n->Pv i acc H->J.go i H) (ht:∀acc H,Pv n acc H->J.stop n H)
  (hs:∀i acc H x H',i < n->Pv i acc H->J.yld i H x H'->tt (some x::frees σ js) H' λok H2=>
   if ok=true then te (some x::frees σ js) H2 λy H3=>H3 p=some (.lst acc)/\acc.length < sizeLine/\∃m',m' < n - i/\(m'=n - (i+1)/\i+1<=n/\Pv (i+1) (acc++ [y]) (upd H3 p (.lst (acc++ [y]))))
   else∃m',m' < n - i/\(m'=n - (i+1)/\i+1<=n/\Pv (i+1) acc H2)) (hd:∀acc H,Pv n acc H->Q (.ref p) H):
  zkU J p σ js tt te H1 Q:=by
 refine⟨λi m acc H=>m=n - i/\i<=n/\Pv i acc H,⟨n,by simp,Nat.zero_le _,h0⟩,?_⟩;rintro i m acc H ⟨rfl,hi,p⟩;by_cases hlt:i < n
 ·exact .inr ⟨hg i acc H hlt p,λx H' y=>hs i acc H x H' hlt p y⟩
 ·have e:i=n:=by omega
  subst e;exact .inl ⟨ht acc H p,hd acc H p⟩
def nxt {i n:Nat}{C:Prop}(h:i < n)(c:C):∃m',m' < n - i/\(m'=n - (i+1)/\i+1<=n/\C):=⟨_,by omega,rfl,h,c⟩
def numOf (l:List Nat):Int:=l.foldl (λ(n:Int) (c:Nat)=>n * 128+(c:Int)) 0
theorem zjx (l:List Nat)(c:Nat):numOf (l++ [c])=numOf l * 128+c:=by unfold numOf;rw[List.foldl_append];rfl
def chunk (x:Str)(k:Nat):List Nat:=(x.cps.toList.drop (7 * k)).take 7
def zhF (x:Str)(k:Nat):Str:=⟨(chunk x k).toArray⟩
def zbZ (x:Str):Nat:=(x.length+6) / 7
def zeR (x:Str):List Int:=(List.range (zbZ x)).map λk=>numOf (chunk x k)
mutual
def zO:Th->List Int
 | .non=>[1]
 | .int n=>[2,(n+10 ^ 30) / 10 ^ 15,(n+10 ^ 30) % 10 ^ 15]
 | .str x=>[3,(x.length:Int)]++zeR x
 | .tup ts=>[4,(ts.length:Int)]++zan ts
def zan:List Th->List Int
 | []=>[]
 | t::r=>zO t++zan r
end
theorem zfl:∀(ts:List Th) (t:Th),zan (ts++ [t])=zan ts++zO t
 | [],t=>by simp[zan]
 | u::r,t=>by have:=zfl r t;show zO u++zan (r++ [t])=zO u++zan r++zO t;rw[this,List.append_assoc]
theorem ziU {ts:List Th}{i:Nat}{t:Th}(h:ts[i]? =some t):zan (ts.take (i+1))=zan (ts.take i)++zO t:=by rw[List.take_add_one,h];exact zfl _ _
mutual
theorem zeZ:∀t:Th,Wf t->(zO t).length<=11 * nodes t
 | .non,_=>by show 1<=11 * 1;omega
 | .int n,_=>by show 3<=11 * 1;omega
 | .str x,h=>by
  have h1:x.length<=60:=h.1;show([3,(x.length:Int)]++zeR x).length<=11 * 1;have h2:(zeR x).length=zbZ x:=by unfold zeR;rw[List.length_map,List.length_range]
  rw[List.length_append,h2];show 2+zbZ x<=11;unfold zbZ;omega
 | .tup ts,h=>by have:=zdY ts h.2;show([4,(ts.length:Int)]++zan ts).length<=11 * (1+zbe ts);rw[List.length_append];show 2+(zan ts).length<=_;omega
theorem zdY:∀ts:List Th,WfL ts->(zan ts).length<=11 * zbe ts
 | [],_=>by show 0<=_;omega
 | t::r,h=>by have h1:=zeZ t h.1;have h2:=zdY r h.2;show(zO t++zan r).length<=11 * (nodes t+zbe r);rw[List.length_append];omega
end
theorem zc7:∀(ts:List Th) (i:Nat),(zan (ts.take i)).length<=(zan ts).length
 | [],i=>by rw[List.take_nil];exact Jb _
 | t::r,0=>by show 0<=_;omega
 | t::r,i+1=>by have:=zc7 r i;show(zO t++zan (r.take i)).length<=(zO t++zan r).length;rw[List.length_append,List.length_append];omega
theorem zme {x:Str}{k:Nat}(h:k < zbZ x):cutS x (some (0+(k:Int) * 7)) (some (0+(k:Int) * 7+7))=zhF x k:=by
 unfold zbZ at h;have e1:(0+(k:Int) * 7)=((7 * k:Nat):Int):=by omega
 have e2:(0+(k:Int) * 7+7)=((7 * k+7:Nat):Int):=by omega
 unfold cutS zhF chunk;rw[e2,e1,HT.sIx_nat,HT.sIx_nat];have hl:x.cps.toList.length=x.length:=Array.length_toList;have a1:min (7 * k) x.length=7 * k:=by omega
 rw[a1];refine congrArg (λl=>(⟨List.toArray l⟩:Str)) ?_;by_cases hb:7 * k+7<=x.length
 ·rw[show min (7 * k+7) x.length - 7 * k=7 by omega]
 ·rw[List.take_of_length_le (by rw[List.length_drop];omega),List.take_of_length_le (by rw[List.length_drop];omega)]
theorem zlC {x:Str}:(((x.length:Int)+7 - 1) / 7).toNat=zbZ x:=by unfold zbZ;omega
def zeo (l:List Int):Int:=l.foldl (λh c=>(h * 1234567890123456789+c) % 2305843009213693951) 7
def zj (t:Th):Int:=zeo (zO t)+1
theorem zgP (l:List Int)(c:Int):zeo (l++ [c])=(zeo l * 1234567890123456789+c) % 2305843009213693951:=by unfold zeo;rw[List.foldl_append];rfl
theorem zjV {l:List Int}{i:Nat}{c:Int}(h:l[i]? =some c):zeo (l.take (i+1))=(zeo (l.take i) * 1234567890123456789+c) % 2305843009213693951:=by rw[List.take_add_one,h];exact zgP _ _
noncomputable abbrev _root_.Jo:=@Int.emod_lt_of_pos
noncomputable abbrev _root_.Jt:=@Int.emod_nonneg
def zfk (l:List Int):0<=zeo l/\zeo l < 2305843009213693951:=by
 rcases List.eq_nil_or_concat l with rfl | ⟨r,c,rfl⟩
 ·exact⟨by decide,by decide⟩
 ·rw[List.concat_eq_append,zgP];exact⟨Jt _ (by decide),Jo _ (by decide)⟩
end Pv
namespace Pv
theorem zgv:∀{ts:List Th} {i:Nat} {t:Th},ts[i]? =some t->nodes t<=zbe ts
 | [],_,_,e=>by simp at e
 | u::r,0,t,e=>by simp at e;subst e;exact JC _ _
 | u::r,i+1,t,e=>Jk (zgv (i:=i) (by simpa using e)) (Nat.le_add_left _ _)
end Pv
namespace Pv
open L2
def tt1 {σ:L2.St}{H:Hp}{A B:Hp->Prop}(h:A H):zlj σ H λok H2=>if ok=true then A H2 else B H2:=by
 show if true=true then A H else B H
 rw[if_pos rfl];exact h
end Pv
namespace Pv
open PySem L2
def za6:Th->Int
 | .non=>0
 | .int _=>1
 | .str _=>2
 | .tup _=>3
mutual
def zh:Th->Th->Bool
 | .non,.non=>false
 | .int a,.int b=>decide (a < b)
 | .str a,.str b=>decide (a.cps.toList < b.cps.toList)
 | .tup a,.tup b=>zbC a b
 | t,u=>decide (za6 t < za6 u)
def zbC:List Th->List Th->Bool
 | [],[]=>false
 | [],_::_=>true
 | _::_,[]=>false
 | t::r,u::q=>if eqT t u=true then zbC r q else zh t u
end
mutual
def rowT:Th->List Int
 | .non=>[0]
 | .int a=>[1,a]
 | .str x=>[2]++x.cps.toList.map (λ(c:Nat)=>(c:Int))++ [-1]
 | .tup ts=>[3]++rowL ts++ [-1]
def rowL:List Th->List Int
 | []=>[]
 | t::r=>rowT t++rowL r
end
theorem zid:∀(p a b:List Int),HT.lexLt (p++a) (p++b)=HT.lexLt a b
 | [],_,_=>rfl
 | x::r,a,b=>by rw[List.cons_append,List.cons_append,HT.lexLt_cons,if_pos rfl];exact zid r a b
theorem zce {x y:Int}(h:x≠y)(a b:List Int):HT.lexLt (x::a) (y::b)=decide (x < y):=by rw[HT.lexLt_cons,if_neg h]
theorem zks:∀(x y:List Nat) (a b:List Int),x≠y->HT.lexLt (x.map (λ(c:Nat)=>(c:Int))++ -1::a) (y.map (λ(c:Nat)=>(c:Int))++ -1::b)=decide (x < y)
 | [],[],_,_,h=>Jh rfl h
 | [],d::y,a,b,_=>by show HT.lexLt (-1::a) ((d:Int)::_)=_;rw[zce (by omega),decide_eq_true (by omega)];exact(decide_eq_true (List.nil_lt_cons d y)).symm
 | c::x,[],a,b,_=>by show HT.lexLt ((c:Int)::_) (-1::b)=_;rw[zce (by omega),Je (by omega)];exact(Je (List.not_lt_nil _)).symm
 | c::x,d::y,a,b,h=>by
  show HT.lexLt ((c:Int)::_) ((d:Int)::_)=_;by_cases e:c=d
  ·subst e;rw[HT.lexLt_cons,if_pos rfl];have:=zks x y a b (λz=>h (by rw[z]));refine Eq.trans this ?_;rw[Bool.eq_iff_iff];simp[List.cons_lt_cons_iff]
  ·rw[zce (by omega)];rw[Bool.eq_iff_iff];simp[List.cons_lt_cons_iff,e]
def zeC (t:Th):∃r,rowT t=za6 t::r:=by
 cases t with
 | non=>exact⟨[],rfl⟩
 | int a=>exact⟨[a],rfl⟩
 | str x=>exact⟨_,rfl⟩
 | tup ts=>exact⟨_,rfl⟩
def zko (t:Th):0<=za6 t:=by
 cases t with
 | non=>exact(by decide:(0:Int)<=0)
 | int _=>exact(by decide:(0:Int)<=1)
 | str _=>exact(by decide:(0:Int)<=2)
 | tup _=>exact(by decide:(0:Int)<=3)
def zqx {x y:Str}(h:x≠y):x.cps.toList≠y.cps.toList:=λz=>h (by
 rcases x with ⟨a⟩;rcases y with ⟨b⟩;have:a=b:=Array.toList_inj.mp z;rw[this])
def zaz {t u:Th}(h:za6 t≠za6 u)(a b:List Int):HT.lexLt (rowT t++a) (rowT u++b)=decide (za6 t < za6 u):=by obtain⟨r,e⟩:=zeC t;obtain⟨q,e'⟩:=zeC u;rw[e,e',List.cons_append,List.cons_append];exact zce h _ _
mutual
theorem zkI:∀(t u:Th) (a b:List Int),t≠u->HT.lexLt (rowT t++a) (rowT u++b)=zh t u
 | .non,.non,_,_,h=>Jh rfl h
 | .non,.int _,a,b,_=>zaz (t:=.non) (u:=.int _) (by show(0:Int)≠1;decide) a b
 | .non,.str _,a,b,_=>zaz (t:=.non) (u:=.str _) (by show(0:Int)≠2;decide) a b
 | .non,.tup _,a,b,_=>zaz (t:=.non) (u:=.tup _) (by show(0:Int)≠3;decide) a b
 | .int _,.non,a,b,_=>zaz (t:=.int _) (u:=.non) (by show(1:Int)≠0;decide) a b
 | .int x,.int y,a,b,h=>by show HT.lexLt (1::x::a) (1::y::b)=decide (x < y);rw[HT.lexLt_cons,if_pos rfl];exact zce (λz=>h (by rw[z])) _ _
 | .int _,.str _,a,b,_=>zaz (t:=.int _) (u:=.str _) (by show(1:Int)≠2;decide) a b
 | .int _,.tup _,a,b,_=>zaz (t:=.int _) (u:=.tup _) (by show(1:Int)≠3;decide) a b
 | .str _,.non,a,b,_=>zaz (t:=.str _) (u:=.non) (by show(2:Int)≠0;decide) a b
 | .str _,.int _,a,b,_=>zaz (t:=.str _) (u:=.int _) (by show(2:Int)≠1;decide) a b
 | .str x,.str y,a,b,h=>by
  have e:∀(z:Str) (w:List Int),rowT (.str z)++w=2::(z.cps.toList.map (λ(c:Nat)=>(c:Int))++ -1::w):=λz w=>by show([2]++_++ [-1])++w=_;simp
  rw[e,e,HT.lexLt_cons,if_pos rfl];exact zks _ _ a b (zqx λz=>h (by rw[z]))
 | .str _,.tup _,a,b,_=>zaz (t:=.str _) (u:=.tup _) (by show(2:Int)≠3;decide) a b
 | .tup _,.non,a,b,_=>zaz (t:=.tup _) (u:=.non) (by show(3:Int)≠0;decide) a b
 | .tup _,.int _,a,b,_=>zaz (t:=.tup _) (u:=.int _) (by show(3:Int)≠1;decide) a b
 | .tup _,.str _,a,b,_=>zaz (t:=.tup _) (u:=.str _) (by show(3:Int)≠2;decide) a b
 | .tup x,.tup y,a,b,h=>by
  have e:∀(z:List Th) (w:List Int),rowT (.tup z)++w=3::(rowL z++ -1::w):=λz w=>by show([3]++_++ [-1])++w=_;simp
  rw[e,e,HT.lexLt_cons,if_pos rfl];exact zp1 x y a b (λz=>h (by rw[z]))
theorem zp1:∀(x y:List Th) (a b:List Int),x≠y->HT.lexLt (rowL x++ -1::a) (rowL y++ -1::b)=zbC x y
 | [],[],_,_,h=>Jh rfl h
 | [],u::q,a,b,_=>by obtain⟨r,e⟩:=zeC u;have:=zko u;show HT.lexLt (-1::a) ((rowT u++rowL q)++ -1::b)=true;rw[e,List.cons_append,List.cons_append,zce (by omega),decide_eq_true (by omega)]
 | t::r,[],a,b,_=>by obtain⟨r',e⟩:=zeC t;have:=zko t;show HT.lexLt ((rowT t++rowL r)++ -1::a) (-1::b)=false;rw[e,List.cons_append,List.cons_append,zce (by omega),Je (by omega)]
 | t::r,u::q,a,b,h=>by
  show HT.lexLt ((rowT t++rowL r)++ -1::a) ((rowT u++rowL q)++ -1::b)=if eqT t u=true then zbC r q else zh t u
  rw[List.append_assoc,List.append_assoc];by_cases e:t=u
  ·subst e;rw[zid,if_pos (zaO t)];exact zp1 r q a b (λz=>h (by rw[z]))
  ·rw[if_neg (λz=>e ((za8 t u).mp z))];exact zkI t u _ _ e
end
theorem zen:∀l:List Int,HT.lexLt l l=false
 | []=>rfl
 | x::r=>by rw[HT.lexLt_cons,if_pos rfl];exact zen r
mutual
theorem zae:∀t:Th,zh t t=false
 | .non=>rfl
 | .int a=>by show decide (a < a)=false;exact Je (by omega)
 | .str x=>by show decide (x.cps.toList < x.cps.toList)=false;exact Je (List.lt_irrefl _)
 | .tup ts=>zdQ ts
theorem zdQ:∀ts:List Th,zbC ts ts=false
 | []=>rfl
 | t::r=>by show(if eqT t t=true then zbC r r else zh t t)=false;rw[if_pos (zaO t)];exact zdQ r
end
theorem zbz (t u:Th):HT.lexLt (rowT t) (rowT u)=zh t u:=by
 by_cases h:t=u
 ·subst h;rw[zen,zae]
 ·have:=zkI t u [] [] h;rwa[List.append_nil,List.append_nil] at this
theorem ziZ {t u:Th}(h:za6 t≠za6 u):zh t u=decide (za6 t < za6 u):=by have:=zaz h [] [];rwa[List.append_nil,List.append_nil,zbz] at this
noncomputable abbrev _root_.Jr:=@List.drop_eq_getElem_cons
theorem ziO {ts us:List Th}{i:Nat}(h1:i < ts.length)(h2:i < us.length):zbC (ts.drop i) (us.drop i)=if eqT ts[i] us[i]=true then zbC (ts.drop (i+1)) (us.drop (i+1)) else zh ts[i] us[i]:=by
 rw[Jr h1,Jr h2]
 rfl
theorem zjy (ts us:List Th):zbC (ts.drop (min ts.length us.length)) (us.drop (min ts.length us.length))=decide (ts.length < us.length):=by
 by_cases h:ts.length < us.length
 ·rw[Nat.min_eq_left (by omega),List.drop_length,Jr h,decide_eq_true h]
  rfl
 ·rw[Nat.min_eq_right (by omega),List.drop_length,Je h];cases e:ts.drop us.length <;> rfl
end Pv
namespace L2
open PySem PySem.Spec PyProof.Rows Px
section
variable {X:Cx}{pins:QE}{σ:St}{H:Hp}{s:Shared}
end
section
variable {X:Cx}
end
section
variable {K:QA}{h:Heap}{mg:QB}{C f:Addr}{x m qual:Str}{st:Stmt}{ps:QP}{od an:QM}{sl:QJ}{oc kV dc pm cd ct:Value}
def zbY (a:PySem.W.findIn K (.ref C) m=some (some (.ref f)))(fn:PySem.W.isFn K (.ref f)=true)(l:K.lookup f=some ⟨oc,od,.func (PySem.W.fnOf m qual (zP st) (zD st) (ze st) .none kV dc pm an cd ct),sl⟩)(c:PySem.W.codeIn K cd qual=true)(k:PySem.W.keepIn K (.ref f)=true)
  (b:∀(kV doc pm:Value) (an:QM) (cdv ct:Value) (us:QN),us.length=ps.length->bindArgs (PySem.W.fnOf m qual (zP st) (zD st) (ze st) .none kV doc pm an cdv ct) ⟨us,[]⟩=pure (ps.zip us)):Mdf K C m qual st ps:=
 ⟨_,_,zcc l c k,(zcc l c k).binds b,⟨a,fn,k⟩⟩
def zic (pg:PySem.W.plainGet K C Str.empty=true)(hd:PySem.W.hasDictIn K C=true)(po:PySem.W.plainOver K C=true)(sa:PySem.W.findIn K (.ref C) "__setattr__" =some (some (.builtin "object.__setattr__"))):Cls K C:=⟨pg,hd,po,sa⟩
def zif (X:K.In h)(G:h.Ns mainGlobals mg)(n:PySem.W.nsIn K mainGlobals x=some (some (.ref C)))(mk:PySem.W.makesIn K C=true)(a:PySem.W.findIn K (.ref C) "__init__" =some (some (.ref f))) (fn:PySem.W.isFn K (.ref f)=true)
  (l:K.lookup f=some ⟨oc,od,.func (PySem.W.fnOf "__init__" qual (zP st) (zD st) (ze st) .none kV dc pm an cd ct),sl⟩) (c:PySem.W.codeIn K cd qual=true) (k:PySem.W.keepIn K (.ref f)=true) (kc:PySem.W.keepIn K (.ref C)=true)
  (b:∀(kV doc pm:Value) (an:QM) (cdv ct:Value) (us:QN),us.length=ps.length->bindArgs (PySem.W.fnOf "__init__" qual (zP st) (zD st) (ze st) .none kV doc pm an cdv ct) ⟨us,[]⟩=pure (ps.zip us)):Mkd K mg x C qual st ps:=
 ⟨_,_,zcc l c k,(zcc l c k).binds b,⟨mk,a,fn,kc⟩,PySem.W.mg_of X G n⟩
def zhJ (q:xIn K C=true)(ov:zgs K C=true)(sa:PySem.W.findIn K (.ref C) "__setattr__" =some (some (.builtin "object.__setattr__"))) (ga:PySem.W.findIn K (.ref C) "__getattribute__" =some (some (.builtin "BaseException.__getattribute__"))) (gn:PySem.W.findIn K (.ref C) "__getattr__" =some none)
  (kp:PySem.W.keepIn K (.ref C)=true):XCls K C:=⟨q,ov,sa,ga,gn,kp⟩
def zqb (X:K.In h)(G:h.Ns mainGlobals mg)(n:PySem.W.nsIn K mainGlobals x=some (some (.ref C)))(cl:XCls K C)(a:PySem.W.findIn K (.ref C) "__init__" =some (some (.ref f))) (fn:PySem.W.isFn K (.ref f)=true)
  (l:K.lookup f=some ⟨oc,od,.func (PySem.W.fnOf "__init__" qual (zP st) (zD st) (ze st) .none kV dc pm an cd ct),sl⟩) (c:PySem.W.codeIn K cd qual=true) (k:PySem.W.keepIn K (.ref f)=true)
  (b:∀(kV doc pm:Value) (an:QM) (cdv ct:Value) (us:QN),us.length=ps.length->bindArgs (PySem.W.fnOf "__init__" qual (zP st) (zD st) (ze st) .none kV doc pm an cdv ct) ⟨us,[]⟩=pure (ps.zip us)):XId K mg x C qual st ps:=
 ⟨cl,_,_,zcc l c k,(zcc l c k).binds b,a,fn,PySem.W.mg_of X G n⟩
def zcw {R:Addr->Prop}(X:K.In h)(n:PySem.W.nsIn K mainGlobals x=some (some (.ref C)))(r:R C):∃C,R C:=⟨C,r⟩
end
end L2
namespace Px
open PySem PySem.W PySem.Builtin PySem.Builtin.ObjectAttr
section
variable {prog:Program}{w:World}{A:Around}{E:QC}{s:Shared}{K:Frag}{x D:Addr}{ox:Obj}{od:Option Obj}
end
end Px
namespace L2
open PySem PySem.Spec PyProof.Rows Px
structure zr5 (K:QA)(C:Addr):Prop where
 cl:XCls K C
 ha:PySem.W.findIn K (.ref C) "__class__" =some (some (.builtin "object.__class__"))
 hn:PySem.W.specialIn K (.builtin "object.__class__") "__get__" =some (some (.builtin "getset_descriptor.__get__"))
 ht:PySem.W.takesIn K (.builtin "object.__class__")=some true
 hm:PySem.W.mroIn K C (.type "object")=some true
section
variable {X:Cx}{pins:QE}{σ:St}{H:Hp}{s:Shared}{a C:Addr}{od:QM}{fr:Bool}
end
section
variable {X:Cx}{x n:Str}{cv:Value}{body suite:List Stmt}{b₀:Stmt}{np hpos pos:Pos}{tb:(St->XK)->TS}{ts:TS}
def zkJ (hst:X.stack=X.env::X.outer)(hfm:X.env.frame=some X.env.locals)(hg:Gl X x)(hm:X.mg x=some cv)
  (hb:∀xe pn E,zbp (CX1 X.prog X.w) (X.tried xe pn) E->PSs (X.tried xe pn) body (tb E)) (hs:∀e,PSs (X.suite e) (b₀::suite) ts) (hdb:(x==("__debug__" :Str))=false:=by decide):
  PS X (.Try body [.ExceptHandler (some (.Name x np)) none (b₀::suite) hpos] [] [] pos) (zrx X.K cv tb ts):=by
 intro pins s σ H D I h;have key:zbp (CX1 X.prog X.w) (X.tried (λe s₁=>wpAny (model X.prog X.w) X.A (noteFrame e X.env) (λ_ s₂=>wpAny (model X.prog X.w) X.A (setFlight e none) (λ_ s₃=>
   wpAny (model X.prog X.w) X.A (handleBy e X.env [.ExceptHandler (some (.Name x np)) none (b₀::suite) hpos]) (SP X pins D) X.xe s₃) X.xe s₂) X.xe s₁) (X.pn++pins)) (znC X.K cv ts D):=by
  intro pins' σ' H1 s1 e s2 I1 hc;obtain⟨ea,cls,od,H',T,rfl,os,bare,un,hok,tb',old,nT,u1,u2,C,rfl,em,q⟩:=hc;have J0:Inv X pins σ' H1 s1:=I1.untried;have J:=J0.call' os un hok bare (λb z=>nomatch z);show wpAny _ _ (noteFrame (.ref ea) X.env) _ _ s2;refine znG (base:=X.base) (by rw[<-hst];exact J.ok.frames) (by rw[<-hst];exact J.stack) hfm tb' λh3 T' z t3 c3=>?_;rw[show(X.env::X.outer).filterMap (·.frame)=frs X.stack from by rw[hst];rfl] at c3;have c3':Chg2 (frs X.stack) (λb=>b=ea\/b=T\/b=T') s2.heap h3:=c3.mono λb y=>y.elim .inl λy=>.inr (.inl y);have J3:=J0.caught os bare un hok old nT u1 u2 z c3' t3;have LT:PySem.W.Looks (model X.prog X.w) h3 (typeOf (.ref ea)) (.ref C):=by obtain⟨vs,sl,ge,_⟩:=zct J3.hok zg;exact(PySem.W.Looks.ld ge).andThen .now
  refine wpAny_handleBy_cons (codeAny_handlers_test (zba (X:=X.suite ea) (J3.suite ea) hg hm ?_ hdb)) (by intro y;cases y);refine(PySem.W.exm_one J3.kIn LT em).here (s:={s2 with heap:=h3}) ?_;refine codeAny_handlers_suite ?_;refine zdZ (s:={s2 with heap:=h3}) (fs:=frs X.stack) t3 λh4 t4 c4 k4=>?_;have J4:=J0.caught os bare un hok old nT u1 u2 z (c3'.trans (c4.two (own:=λb=>b=ea\/b=T\/b=T') (.inl rfl) (.inl (.inr (.inr rfl))))) t4;refine wpAny_mono (hs ea pins {s2 with heap:=h4} _ _ D (J4.suite ea) (q ea u1)) (λf s6 q6=>?_) λ_ _ y=>y.elim;cases f with
  | next=>obtain⟨σ6,H6,J6,y⟩:=q6;exact⟨_,_,J6.unsuite J0.ok,y⟩
  | brk=>obtain⟨σ6,H6,J6,y⟩:=q6;exact⟨_,_,J6.unsuite J0.ok,y⟩
  | cont=>obtain⟨σ6,H6,J6,y⟩:=q6;exact⟨_,_,J6.unsuite J0.ok,y⟩
  | ret u=>obtain⟨v6,σ6,H6,J6,rv,y⟩:=q6;exact⟨_,_,_,J6.unsuite J0.ok,rv,y⟩
 refine wpAny_Try_except (wpAny_mono (hb _ (X.pn++pins) _ key [] s σ H D (I.tried _) h) (λf s₁ q=>?_) λ_ _ y=>y);cases f with
 | next=>obtain⟨σ',H',I',y⟩:=q;exact wpAny_execs_nil ⟨σ',H',I'.untried,y⟩
 | brk=>obtain⟨σ',H',I',y⟩:=q;exact⟨σ',H',I'.untried,y⟩
 | cont=>obtain⟨σ',H',I',y⟩:=q;exact⟨σ',H',I'.untried,y⟩
 | ret u=>obtain⟨v,σ',H',I',rv,y⟩:=q;exact⟨v,σ',H',I'.untried,rv,y⟩
end
end L2
namespace L2
open PySem PySem.Spec PyProof.Rows
section
variable {X:Cx}{x y1 y2:Str}{scope:Scope}{j1 j2:Nat}{c1 c2:Addr}
end
def zb1 (kvs:QG):List Int:=kvs.filterMap λp=>match p.1 with | .inl n=>some n | .inr _=>none
def IntKeys (kvs:QG):Prop:=kvs.map (·.1)=(zb1 kvs).map Sum.inl
theorem KV.at {kvs:QG}{vs:List (Key ×Value)}(r:KV kvs vs):kvs.length=vs.length/\kvs.map (·.1)=vs.map (·.1):=by
 unfold KV at r
 induction r with
 | nil=>exact⟨rfl,rfl⟩
 | cons h _ ih=>exact⟨by simp[ih.1],by simp[ih.2,h.1]⟩
section
variable {X:Cx}
def zfO {kvs:QG}{vs:List (Key ×Value)}(r:KV kvs vs)(hi:IntKeys kvs){j:Nat}{k:Key}{x v:Value}(e:vs[j]? =some (k,x))(hk:zgd k v=true):∃t,v=.int ((zb1 kvs)[j]?.getD 0) t/\j < (zb1 kvs).length:=by
 have h1:(vs.map (·.1))[j]? =some k:=by rw[List.getElem?_map,e];rfl
 rw[<-r.at.2,hi,List.getElem?_map] at h1;cases z:(zb1 kvs)[j]? with
 | none=>rw[z] at h1;cases h1
 | some n=>rw[z] at h1;have h2:k=Sum.inl n:=(Option.some.inj h1).symm;subst h2;obtain⟨t,e'⟩:=Value.isInt_shape (k:=n) (v:=v) hk;exact⟨t,e',(List.getElem?_eq_some_iff.mp z).1⟩
theorem zgQ:∀{us:QN} {ns:List Int},us.length=ns.length->(∀(j:Nat) (v:Value),us[j]? =some v->∃t,v=.int (ns[j]?.getD 0) t)->IntsAre us ns
 | [],[],_,_=>.nil
 | v::us,n::ns,hl,h=>by obtain⟨t,e⟩:=h 0 v rfl;subst e;exact .cons n t (zgQ (by simpa using hl) λj v e=>h (j+1) v e)
 | [],_::_,hl,_=>by simp at hl
 | _::_,[],hl,_=>by simp at hl
def zem {kvs:QG}(h:IntKeys kvs):(zb1 kvs).length=kvs.length:=by have:=congrArg List.length h;simpa using this.symm
def gathered {P:Program}{w:World}{A:Around}{E:QC}{s:Shared}{T:String}{a d:Addr}{n:Nat}{F:Nat->Value->Prop}{G:Heap->Prop}{R:List Value->Shared->Prop}
  (src:PySem.W.KdlSrc P w T a d n F G) (calm:A.handled=none) (g:G s.heap) (le:n<=sizeLine)
  (h:∀(h':Heap) (k:Nat) (xs:Array Value),(∀b o,s.heap.get? b=some o->h'.get? b=some o)->s.heap.objs.size < h'.objs.size->PySem.ItemsOf F xs n->R xs.toList {s with heap:=h',toks:=k}):
  wpAny (model P w) A (collect (.ref a)) R E s:=by
 obtain⟨lt1,lt2⟩:=src.there _ g;unfold collect;refine Ja (wpAny_runValue (codeAny_builtin entry_proto_collect' ?_));rw[Around.under_plainId PySem.F.plain_proto_collect _];refine Ja (m:=newList []) (wpAny_newObj_type (wpAny_pure ⟨plainId_quiet PySem.F.plain_list_iadd _,codeAny_builtin entry_list_iadd' ?_⟩));rw[Around.under_plainId PySem.F.plain_list_iadd _];refine wpAny_mono (PySem.W.kdl_extend (A:=A) (s:={s with heap:=s.heap.push {cls:=.type "list",data:=.seq ([]:QN).toArray}})
  (R:=λq s'=>∃h' k xs c,q=.ok (.ret (.ref s.heap.objs.size))/\s'={s with heap:=h',toks:=k}/\(∀b o,s.heap.get? b=some o->h'.get? b=some o)/\h'.get? s.heap.objs.size=some {cls:=.type "list",dict:=none,data:=.seq xs c,slots:= #[]}/\PySem.ItemsOf F xs n)
  src calm (src.keep _ _ g λb _ o e=>Heap.get?_push_of_some _ e) s.heap.objs.size (Nat.ne_of_gt lt1) (Nat.ne_of_gt lt2) (.ref s.heap.objs.size) 0 (Heap.get?_push_size _ rfl)
  (λh' k xs c kk hS hx=>⟨h',k,xs,c,rfl,rfl,λb o e=>kk b o (Jl (Heap.lt_size e)) (Heap.get?_push_of_some _ e),hS,hx⟩) le) (λfin s' x=>?_) (λe s' x=>?_)
 ·cases fin with
  | done f=>obtain⟨h',k,xs,c,e,rfl,kk,hS,hx⟩:=x;cases e;exact Ja (m:=load s.heap.objs.size) (wpAny_load hS (wpAny_pure (h h' k xs kk (Heap.lt_size hS) hx)))
  | again c₁=>refine⟨x.1,codeAny_mono x.2 λq s₂ y=>?_⟩;obtain⟨h',k,xs,c,rfl,rfl,kk,hS,hx⟩:=y;exact Ja (m:=load s.heap.objs.size) (wpAny_load hS (wpAny_pure (h h' k xs kk (Heap.lt_size hS) hx)))
 ·obtain⟨_,_,_,_,e',_⟩:=x;cases e'
noncomputable abbrev _root_.Jm:=@List.getElem_mem
def zlX (hc:X.calm=true):zbg X (.builtin "min") (λxs H Q=>∃(d:Addr) (kvs:QG),xs=[.ref d]/\H d=some (.dK kvs)/\IntKeys kvs/\0 < kvs.length/\
  ∀n:Int,n∈zb1 kvs->(∀m∈zb1 kvs,n<=m)->Q (.int n) H):=by
 intro pins s σ H xs us Q I r h;obtain⟨d,kvs,rfl,hd,hi,h0,q⟩:=h;obtain⟨u,rfl,ru⟩:=vals1 r;cases (show u=Value.ref d from ru);obtain⟨hz,lo,vs,rel,hD⟩:=I.hok d _ hd;obtain⟨ep,hat⟩:=hD.dictAt;have hl:=rel.at.1;have hkl:=zem hi;have S:=PySem.W.kdl_dict (knd:=zal X.prog X.w) (kvs:=vs) (ep:=ep) lo;obtain⟨oI,St,hit,W,st⟩:=S.iter X.A.in1 s (show X.A.in1.handled=none from I.ok.hd hc) hat;refine call_min_walkS (hit _ _ ?_);refine⟨s.heap.objs.size,_,_,_,vs.length,_,_,λi j=>decide ((zb1 kvs)[i]?.getD 0 < (zb1 kvs)[j]?.getD 0),rfl,W.toS,st,λb hb=>?_,by omega,?_,λv s' hp hm=>?_⟩
 ·show b < (s.heap.push oI).objs.size;rw[size_push'];rcases List.mem_cons.mp hb with e | hb
  ·rw[e];exact Nat.lt_succ_self _
  ·rw[Ji.mp hb];exact Nat.lt_succ_of_lt (S.there _ hat).2
 ·rintro i j vi vj s1 Q1 E1 ⟨k1,x1,e1,i1⟩ ⟨k2,x2,e2,i2⟩ hq;obtain⟨t1,rfl,_⟩:=zfO rel hi e1 i1;obtain⟨t2,rfl,_⟩:=zfO rel hi e2 i2;exact lt_int hq
 ·obtain⟨k1,x1,e1,i1⟩:=hp;obtain⟨t1,rfl,lt⟩:=zfO rel hi e1 i1;obtain⟨b1,b2⟩:=argBest_lt (λi=>(zb1 kvs)[i]?.getD 0) (vs.length - 1);have hk:∀b o,s.heap.get? b=some o->s'.heap.get? b=some o:=λb o e=>
   hm.heap b o (λhI=>Jh (Heap.lt_size e) (by rw[Ji.mp hI];exact Jw _)) (Heap.get?_push_of_some _ e)
  rw[Moved.eq_with hm];refine⟨.int _,H,I.kept hk,⟨_,rfl⟩,q _ ?_ λm hmem=>?_⟩
  ·rw[List.getElem?_eq_getElem lt];exact Jm lt
  ·obtain⟨j,hj,rfl⟩:=List.mem_iff_getElem.mp hmem;have:=b2 j (by omega);rw[List.getElem?_eq_getElem hj] at this;exact this
def zjj:zbg X (.builtin "len") (λxs H Q=>∃(d:Addr) (kvs:QG),xs=[.ref d]/\H d=some (.dK kvs)/\Q (.int kvs.length) H):=by intro pins s σ H xs us Q I r h;obtain⟨d,kvs,rfl,hd,q⟩:=h;obtain⟨u,rfl,ru⟩:=vals1 r;cases (show u=Value.ref d from ru);obtain⟨hz,lo,vs,rel,hD⟩:=I.hok d _ hd;have hl:=rel.at.1;have hs:sizeLine=16777216:=sizeLine_eq;refine call_len_dict lo hD (by omega) ?_;rw[<-hl];exact⟨.int kvs.length,H,I.tok _,⟨_,rfl⟩,q⟩
end
end L2
namespace Pv
open PySem L2
inductive RepL (H:Hp):List Th->List V->Prop where
 | nil:RepL H [] []
 | cons {t:Th} {v:V} {ts:List Th} {vs:QQ} (h:Rep H t v) (r:RepL H ts vs):RepL H (t::ts) (v::vs)
theorem RepL.len {H:Hp}:∀{ts:List Th} {vs:QQ},RepL H ts vs->vs.length=ts.length
 | _,_,.nil=>rfl
 | _,_,.cons _ r=>by rw[List.length_cons,List.length_cons,r.len]
theorem RepL.at {H:Hp}:∀{ts:List Th} {vs:QQ},RepL H ts vs->∀(i:Nat) (x:V) (t:Th),vs[i]? =some x->ts[i]? =some t->Rep H t x
 | _,_,.nil,i,x,t,e,_=>by simp at e
 | _,_,.cons h r,0,x,t,e1,e2=>by simp at e1 e2;subst e1;subst e2;exact h
 | _,_,.cons h r,i+1,x,t,e1,e2=>r.at i x t (by simpa using e1) (by simpa using e2)
theorem RepL.keep {H H':Hp}(k:Tups H H'):∀{ts:List Th} {vs:QQ},RepL H ts vs->RepL H' ts vs
 | _,_,.nil=>.nil
 | _,_,.cons h r=>.cons (h.keep k) (r.keep k)
theorem RepL.new {H:Hp}{ts:List Th}{vs:QQ}{p:Addr}(r:RepL H ts vs)(hp:H p=none):Rep (upd H p (.tup vs)) (.tup ts) (.ref p):=
 .tup zg r.len λi x t e1 e2=>(r.at i x t e1 e2).keep (Tups.new hp)
theorem RepL.of {H:Hp}:∀{ts:List Th} {vs:QQ},vs.length=ts.length->(∀(i:Nat) (x:V) (t:Th),vs[i]? =some x->ts[i]? =some t->Rep H t x)->RepL H ts vs
 | [],[],_,_=>.nil
 | t::ts,v::vs,l,h=>.cons (h 0 v t rfl rfl) (RepL.of (by simpa using l) λi x u e1 e2=>h (i+1) x u (by simpa using e1) (by simpa using e2))
 | [],_::_,l,_=>by simp at l
 | _::_,[],l,_=>by simp at l
def Rep.list {H:Hp}{ts:List Th}{v:V}(r:Rep H (.tup ts) v):∃a xs,v=.ref a/\H a=some (.tup xs)/\RepL H ts xs:=by
 cases r with
 | @tup a xs _ e l h=>exact⟨a,xs,rfl,e,RepL.of l h⟩
theorem RepL.snoc {H:Hp}{t:Th}{v:V}(h:Rep H t v):∀{ts:List Th} {vs:QQ},RepL H ts vs->RepL H (ts++ [t]) (vs++ [v])
 | _,_,.nil=>.cons h .nil
 | _,_,.cons h' r=>.cons h' (r.snoc h)
open PySem.SeqAt in
def zpX {X:Cx}{pins:QE}{σ:L2.St}{H:Hp}{s:Shared}(I:Inv X pins σ H s){a b:Addr}{xs ys:QQ}{ts us:List Th}{A:Around}(e:SqL X.K H a xs)(e':SqL X.K H b ys)(r:RepL H ts xs)(q:RepL H us ys)(hd:∀t∈ts,dep t<=50)(hu:A.units+60 < cLine):
  RcAt A s (.ref a) (.ref b) (eqL ts us)/\RcNeAt A s (.ref a) (.ref b) (!eqL ts us):=by
 obtain⟨its,r1,T1,_⟩:=I.list e;obtain⟨jts,r2,T2,_⟩:=I.list e';have n1:=r1.length;have n2:=r2.length;have l1:=r.len;have l2:=q.len;by_cases hl:ts.length=us.length
 ·have key:∀j (h1:j < its.toArray.size) (h2:j < jts.toArray.size),EqAt A.in1 s its.toArray[j] jts.toArray[j] (eqT (ts[j]?.getD .non) (us[j]?.getD .non)):=λj h1 h2=>by
   have h1':j < its.length:=by simpa using h1
   have h2':j < jts.length:=by simpa using h2
   obtain⟨vx,ex,rx⟩:=r1.get (List.getElem?_eq_getElem (show j < xs.length by omega));obtain⟨vy,ey,ry⟩:=r2.get (List.getElem?_eq_getElem (show j < ys.length by omega));have g1:ts[j]? =some ts[j]:=List.getElem?_eq_getElem (by omega);have g2:us[j]? =some us[j]:=List.getElem?_eq_getElem (by omega);have dj:=hd ts[j] (Jm (by omega));rw[g1,g2];have z1:its.toArray[j]=vx:=by have:its[j]? =some its[j]:=List.getElem?_eq_getElem h1';rw[this] at ex;simpa using Option.some.inj ex
   have z2:jts.toArray[j]=vy:=by have:jts[j]? =some jts[j]:=List.getElem?_eq_getElem h2';rw[this] at ey;simpa using Option.some.inj ey
   rw[z1,z2];exact zjO I (r.at j _ _ (List.getElem?_eq_getElem (show j < xs.length by omega)) g1) (q.at j _ _ (List.getElem?_eq_getElem (show j < ys.length by omega)) g2) rx ry (by
    show A.units+1+dep ts[j]+1 < cLine;omega)
  have hsz:its.toArray.size=jts.toArray.size:=by rw[List.size_toArray,List.size_toArray];omega
  have R:=RcAt.lists T1.isList T2.isList hsz (show A.units < cLine by omega) key;have R':=RcNeAt.lists T1.isList T2.isList hsz (show A.units < cLine by omega) key;have e3:(List.range its.toArray.size).all (λj=>eqT (ts[j]?.getD .non) (us[j]?.getD .non))=eqL ts us:=by rw[zdK,List.size_toArray,show min ts.length us.length=its.length by omega,show(ts.length==us.length)=true by rw[hl];exact beq_self_eq_true _,Bool.and_true]
  rw[e3] at R R';exact⟨R,R'⟩
 ·have hne:eqL ts us=false:=by
   cases z:eqL ts us with
   | true=>exact Jh (congrArg List.length ((zeD ts us).mp z)) hl
   | false=>rfl
  have hsz:(its.toArray.size !=jts.toArray.size)=true:=by rw[List.size_toArray,List.size_toArray,bne_iff_ne];omega
  rw[hne];exact⟨RcAt.lists_lengths T1.isList T2.isList hsz (by omega),RcNeAt.lists_lengths T1.isList T2.isList hsz (by omega)⟩
section
variable {X:Cx}
def zrW {k:Nat}(hr:Room k X.A):OpR X (compareOp .Eq) (λx y H Q=>∃a b xs ys ts us,x=.ref a/\y=.ref b/\SqL X.K H a xs/\SqL X.K H b ys/\RepL H ts xs/\RepL H us ys/\(∀t∈ts,dep t<=50)/\Q (.bl (eqL ts us)) H):=by intro pins s σ H x y v w Q I rx ry h;obtain⟨a,b,xs,ys,ts,us,rfl,rfl,e1,e2,r1,r2,hd,q⟩:=h;cases (show v=Value.ref a from rx);cases (show w=Value.ref b from ry);have hu:=hr.units;exact(zpX I e1 e2 r1 r2 hd (by omega)).1 _ _ _ _ ⟨.bl _,H,I,rfl,q⟩
def zpr {k:Nat}(hr:Room k X.A):OpR X (compareOp .NotEq) (λx y H Q=>∃a b xs ys ts us,x=.ref a/\y=.ref b/\SqL X.K H a xs/\SqL X.K H b ys/\RepL H ts xs/\RepL H us ys/\(∀t∈ts,dep t<=50)/\Q (.bl (!eqL ts us)) H):=by intro pins s σ H x y v w Q I rx ry h;obtain⟨a,b,xs,ys,ts,us,rfl,rfl,e1,e2,r1,r2,hd,q⟩:=h;cases (show v=Value.ref a from rx);cases (show w=Value.ref b from ry);have hu:=hr.units;exact(zpX I e1 e2 r1 r2 hd (by omega)).2 _ _ _ _ ⟨.bl _,H,I,rfl,q⟩
def mulS (x:Str)(n:Int):Str:=if n < 1 then Str.empty else if (n==1 || x.length==0)=true then x else⟨(List.replicate n.toNat x.cps).foldl (· ++ ·) #[]⟩
def zoZ:OpR X (binaryOp .Mult) (λx y H Q=>∃(z:Str) (n:Int),x=.str z/\y=.int n/\0<=n/\n<=1000/\z.length<=1000/\(mulS z n).length<=1000/\Q (.str (mulS z n)) H):=by
 intro pins s σ H x y v w Q I rx ry h;obtain⟨z,n,rfl,rfl,h0,h1,hz,hl,q⟩:=h;obtain⟨t1,rfl⟩:=rx;obtain⟨t2,rfl⟩:=ry;have hs:sizeLine=16777216:=sizeLine_eq;refine P.mul_str (by rw[Je (by omega),Je (by omega)];rfl) (λa b=>?_) (λa b=>?_) ?_
 ·intro c;have:(2 ^ 63 - 1:Int) / n≥1000:=by refine Int.le_ediv_of_mul_le (by omega) ?_;omega
  omega
 ·show decide (_ > sizeLine)=false;refine Je ?_;have:z.length * n.toNat<=1000 * 1000:=Nat.mul_le_mul hz (by omega);omega
 ·unfold mulS at q hl;by_cases a:n < 1
  ·rw[if_pos a] at q ⊢;exact⟨by decide,.str _,H,I.tok _,⟨_,rfl⟩,q⟩
  ·rw[if_neg a] at q hl ⊢;by_cases b:(n==1 || z.length==0)=true
   ·rw[if_pos b] at q ⊢;exact⟨.str _,H,I,⟨_,rfl⟩,q⟩
   ·rw[if_neg b] at q hl ⊢;exact⟨by omega,.str _,H,I.tok _,⟨_,rfl⟩,q⟩
end
abbrev _root_.QF:=List (Int ×Th)
def zf (cs:QF)(n:Int):Option Th:=(cs.find? λp=>decide (p.1=n)).map (·.2)
inductive DRep (H:Hp):List (Int ×Th)->List (Key ×V)->Prop where
 | nil:DRep H [] []
 | cons {n:Int} {t:Th} {v:V} {cs:QF} {kvs:QG} (h:Rep H t v) (r:DRep H cs kvs):DRep H ((n,t)::cs) ((.inl n,v)::kvs)
theorem DRep.len {H:Hp}{cs:QF}{kvs:QG}(r:DRep H cs kvs):kvs.length=cs.length:=by
 induction r with
 | nil=>rfl
 | cons _ _ ih=>rw[List.length_cons,List.length_cons,ih]
def DRep.keep {H H':Hp}(k:Tups H H'){cs:QF}{kvs:QG}(r:DRep H cs kvs):DRep H' cs kvs:=by
 induction r with
 | nil=>exact .nil
 | cons h _ ih=>exact .cons (h.keep k) ih
def DRep.keys {H:Hp}{cs:QF}{kvs:QG}(r:DRep H cs kvs):zb1 kvs=cs.map (·.1)/\L2.IntKeys kvs:=by
 induction r with
 | nil=>exact⟨rfl,rfl⟩
 | @cons n t v cs kvs _ _ ih=>have e:zb1 ((.inl n,v)::kvs)=n::zb1 kvs:=rfl;refine⟨by rw[e,ih.1];rfl,?_⟩;unfold L2.IntKeys;rw[e,List.map_cons,List.map_cons];exact congrArg _ ih.2
theorem zak {n m:Int}{t:Th}{cs:QF}:zf ((n,t)::cs) m=if n=m then some t else zf cs m:=by
 unfold zf;rw[List.find?_cons];by_cases e:n=m
 ·rw[if_pos e,decide_eq_true e];rfl
 ·rw[if_neg e,Je e]
theorem zgH {n m:Int}{v:V}{kvs:QG}:valV ((Sum.inl n,v)::kvs) (Sum.inl m:Key)=if n=m then some v else valV kvs (.inl m):=by
 by_cases e:n=m
 ·rw[if_pos e];exact zaG (by rw[e])
 ·rw[if_neg e];unfold valV;rw[List.find?_cons];rw[Je (λz=>e (Sum.inl.inj z))]
theorem DRep.none {H:Hp}{cs:QF}{kvs:QG}(r:DRep H cs kvs){n:Int}(h:zf cs n=.none):valV kvs (.inl n)=.none:=by
 induction r with
 | nil=>rfl
 | @cons m t v cs kvs _ _ ih=>
  rw[zak] at h;rw[zgH];by_cases e:m=n
  ·rw[if_pos e] at h;cases h
  ·rw[if_neg e] at h ⊢;exact ih h
theorem DRep.some {H:Hp}{cs:QF}{kvs:QG}(r:DRep H cs kvs){n:Int}{t:Th}(h:zf cs n=.some t):∃v,valV kvs (.inl n)=.some v/\Rep H t v:=by
 induction r with
 | nil=>cases h
 | @cons m u v cs kvs hv _ ih=>
  rw[zak] at h;rw[zgH];by_cases e:m=n
  ·rw[if_pos e] at h ⊢;cases h;exact⟨v,rfl,hv⟩
  ·rw[if_neg e] at h ⊢;exact ih h
def DRep.back {H:Hp}{cs:QF}{kvs:QG}(r:DRep H cs kvs){n:Int}{v:V}(h:valV kvs (.inl n)=.some v):∃t,zf cs n=.some t/\Rep H t v:=by
 cases e:zf cs n with
 | none=>rw[r.none e] at h;cases h
 | some t=>obtain⟨v',e',rv⟩:=r.some e;rw[h] at e';cases e';exact⟨t,rfl,rv⟩
def DRep.snoc {H:Hp}{cs:QF}{kvs:QG}{n:Int}{t:Th}{v:V}(h:Rep H t v)(r:DRep H cs kvs):DRep H (cs++ [(n,t)]) (kvs++ [(.inl n,v)]):=by
 induction r with
 | nil=>exact .cons h .nil
 | cons h' _ ih=>exact .cons h' ih
def DRep.put {H:Hp}{cs:QF}{kvs:QG}{n:Int}{t:Th}{v:V}(r:DRep H cs kvs)(h:Rep H t v)(hn:zf cs n=.none):DRep H (cs++ [(n,t)]) (putK kvs (.inl n) v):=by rw[znE v (r.none hn)];exact r.snoc h
def DRep.again {H:Hp}{cs:QF}{kvs:QG}{n:Int}{t:Th}{v:V}(r:DRep H cs kvs)(h:Rep H t v)(hn:zf cs n=.some t)(nd:(cs.map (·.1)).Nodup):DRep H cs (putK kvs (.inl n) v):=by
 have ha:(kvs.any λkv=>decide (kv.1=(Sum.inl n:Key)))=true:=by
  obtain⟨v',e,_⟩:=r.some hn;unfold valV at e;cases z:kvs.find? λkv=>decide (kv.1=(Sum.inl n:Key)) with
  | none=>rw[z] at e;cases e
  | some p=>exact List.any_eq_true.mpr ⟨p,List.mem_of_find?_eq_some z,by have:=List.find?_some z;exact this⟩
 unfold putK;rw[if_pos ha];clear ha
 induction r with
 | nil=>exact .nil
 | @cons m u v' cs kvs h' r' ih=>
  have nd':=List.nodup_cons.mp nd;rw[List.map_cons];by_cases e:m=n
  ·subst e;rw[if_pos rfl];rw[zak,if_pos rfl] at hn;cases hn;have rest:kvs.map (λkv=>if kv.1=(Sum.inl m:Key) then(kv.1,v) else kv)=kvs:=by
    have:∀kv∈kvs,(if kv.1=(Sum.inl m:Key) then(kv.1,v) else kv)=kv:=λkv hkv=>by
     refine if_neg λz=>nd'.1 ?_;have e1:=r'.keys;have m1:(Sum.inl m:Key)∈kvs.map (·.1):=by rw[<-z];exact List.mem_map_of_mem hkv
     rw[e1.2,List.mem_map] at m1;obtain⟨i,hi,ei⟩:=m1;cases ei;rw[<-e1.1];exact hi
    rw[List.map_congr_left this,List.map_id']
   rw[rest];exact .cons h r'
  ·rw[if_neg (λz=>e (Sum.inl.inj z))];rw[zak,if_neg e] at hn;exact .cons h' (ih hn nd'.2)
def zcb {cs:QF}{n:Int}{t:Th}(h:zf cs n=some t):(n,t)∈cs:=by
 induction cs with
 | nil=>cases h
 | cons p cs ih=>
  obtain⟨m,u⟩:=p;rw[zak] at h;by_cases e:m=n
  ·rw[if_pos e] at h;cases h;subst e;exact List.mem_cons_self
  ·rw[if_neg e] at h;exact Jn _ (ih h)
def zdC {cs:QF}{n:Int}(h:n∈cs.map (·.1)):∃t,zf cs n=some t:=by
 induction cs with
 | nil=>cases h
 | cons p cs ih=>
  obtain⟨m,u⟩:=p;rw[zak];by_cases e:m=n
  ·exact⟨u,if_pos e⟩
  ·rw[if_neg e];rw[List.map_cons,List.mem_cons] at h;exact ih (h.resolve_left λz=>e z.symm)
def zjP {cs:QF}{n:Int}(h:zf cs n=none):n∉cs.map (·.1):=λz=>by obtain⟨t,e⟩:=zdC z;rw[h] at e;cases e
theorem zaS {cs:QF}{n m:Int}{t:Th}:zf (cs++ [(n,t)]) m=match zf cs m with | some u=>some u | none=>if n=m then some t else none:=by
 induction cs with
 | nil=>rw[List.nil_append,zak];rfl
 | cons p cs ih=>
  obtain⟨k,u⟩:=p;rw[List.cons_append,zak,zak];by_cases e:k=m
  ·rw[if_pos e,if_pos e]
  ·rw[if_neg e,if_neg e,ih]
theorem ze1:∀{l k:List Int},l.Perm k->l.Pairwise (· <= ·)->k.Pairwise (· <= ·)->l=k
 | [],k,p,_,_=>p.nil_eq
 | a::l,k,p,h1,h2=>by
  cases k with
  | nil=>exact Jh p.length_eq (by simp)
  | cons b k=>
   have ha:a∈b::k:=p.subset List.mem_cons_self;have hb:b∈a::l:=p.symm.subset List.mem_cons_self;have h1':=List.pairwise_cons.mp h1;have h2':=List.pairwise_cons.mp h2;have e:a=b:=by
    rcases List.mem_cons.mp ha with z | z
    ·exact z
    ·rcases List.mem_cons.mp hb with y | y
     ·exact y.symm
     ·have:=h1'.1 b y;have:=h2'.1 a z;omega
   subst e;rw[ze1 (List.Perm.cons_inv p) h1'.2 h2'.2]
def zw (cs:QF)(ns:List Int):List Th:=ns.map λn=>(zf cs n).getD .non
end Pv
namespace L2
open PySem PySem.Spec PyProof.Rows Px
structure ClsM (K:QA)(mg:QB)(x:Str)(V:Addr)(mc:Value)(m:Str)(f:Addr):Prop where
 mg:mg x=some (.ref V)
 sp:PySem.W.specialIn K (.ref V) "__getattribute__" =some (some (.builtin "type.__getattribute__"))
 rd:PySem.W.readsIn K V mc=true
 fc:PySem.W.findCls K (.ref V) mc m=some (.val (.ref f))
 kp:PySem.W.keepIn K (.ref f)=true
structure Kdf (K:QA)(mg:QB)(x m qual:Str)(st:Stmt)(ps:QP):Prop where
 ex:∃f fd V mc,Fun K m qual st f fd/\Binds K fd ps []/\ClsM K mg x V mc m f
structure Kfn (P:Program)(w:World)(K:QA)(mg:QB)(base:Heap)(x m:Str)(k:Nat)(ps:QP)(sp:Sp):Prop where
 ex:∃f fd V mc,FnOk P w K mg base CX0 k f fd ps sp/\Binds K fd ps []/\ClsM K mg x V mc m f
section
variable {P:Program}{w:World}{K:QA}{mg:QB}{base:Heap}{x m qual:Str}{st:Stmt}{ps N:QP}{sp:Sp}{k:Nat}
theorem Kdf.ok (D:Kdf K mg x m qual st ps)(S:zr N ps (ze st))(len:∀vs H Q E,sp vs H Q E->vs.length=ps.length)
  (hbody:∀(f:Addr) (cdv:Value) (A:Around) (outer:List Env) (s:Shared) (H:Hp) (vs:QQ) (Q:VK) (E:XK),Room k (A.deeper (envOfC qual (ze st) s.heap.objs.size f cdv))->sp vs H Q E->
   ∃t,PSs (cxOf CX0 P w K mg base N qual (ze st) f cdv A outer s H E).nox (zD st) t/\t {nx:=λ_ H'=>Q .non H',rt:=Q} (start N vs) H):Kfn P w K mg base x m (k+1) ps sp:=by
 obtain⟨f,fd,V,mc,F,b,me⟩:=D.ex;exact⟨f,fd,V,mc,F.ok S len (λcdv A outer s H vs Q E hr h=>hbody f cdv A outer s H vs Q E hr h),b,me⟩
variable {f V:Addr}{mc:Value}{od an:QM}{sl:QJ}{oc kV dc pm cd ct:Value}{h:Heap}
def zqT (X:K.In h)(G:h.Ns mainGlobals mg)(n:PySem.W.nsIn K mainGlobals x=some (some (.ref V)))(g:PySem.W.specialIn K (.ref V) "__getattribute__" =some (some (.builtin "type.__getattribute__"))) (rd:PySem.W.readsIn K V mc=true) (fc:PySem.W.findCls K (.ref V) mc m=some (.val (.ref f)))
  (l:K.lookup f=some ⟨oc,od,.func (PySem.W.fnOf m qual (zP st) (zD st) (ze st) .none kV dc pm an cd ct),sl⟩) (c:PySem.W.codeIn K cd qual=true) (k:PySem.W.keepIn K (.ref f)=true)
  (b:∀(kV doc pm:Value) (an:QM) (cdv ct:Value) (us:QN),us.length=ps.length->bindArgs (PySem.W.fnOf m qual (zP st) (zD st) (ze st) .none kV doc pm an cdv ct) ⟨us,[]⟩=pure (ps.zip us)):Kdf K mg x m qual st ps:=
 ⟨_,_,V,mc,zcc l c k,(zcc l c k).binds b,⟨PySem.W.mg_of X G n,g,rd,fc,k⟩⟩
end
section
variable {X:Cx}{x m:Str}{ps:QP}{sp:Sp}{k k':Nat}{e:Expr}{es:List Expr}{t:TA}{p pos apos:Pos}
def zob {pl:Sem Bool}(F:Kfn X.prog X.w X.K X.mg X.base x m k ps sp)(hr:Room k' X.A)(hle:k<=k')(hg:Gl X x)(ha:PA X (e::es) t)(hd:(x==("__debug__" :Str))=false:=by decide)
  (hst:starEach (e::es) X.env=(false,eval e X.env)::starEach es X.env:=by rfl) (hpl:∀pos,(backTo pos (starEach es X.env)).any (·.1)=false:=by intro _;rfl)
  (ht:eval (.Call (.Attribute (.Name x p) m apos) (e::es) [] pos) X.env=(do
   let ov<-eval (.Name x p) X.env
   standAt apos.atName
   let (f,first) <-holding [ov] (getMethod ov m pl)
   callWith pos f first (backTo pos (starEach (e::es) X.env)) (backToKw pos (keywordEach [] X.env))):=by rfl):
  PE X (.Call (.Attribute (.Name x p) m apos) (e::es) [] pos) (zk4 sp [] E0 t):=by
 obtain⟨f,fd,V,mc,a,b,M⟩:=F.ex;intro pins s σ H Q I h;refine PySem.W.methodCall_KW (pl:=pl) (thn (zx (v:=.ref V) hg M.mg rfl hd pins s σ H (λv H1=>v=.ref V/\H1=H) I ⟨rfl,rfl⟩) λu s1 ⟨v,H1,I1,r1,e1,e2⟩=>?_) ht;subst e1 e2;obtain rfl:u=Value.ref V:=r1;refine PySem.W.method_cls I1.kIn M.sp (PySem.W.cls_value I1.kIn M.rd M.fc rfl ?_);have I2:=I1.tok (s1.toks+1);refine PySem.W.callWith_K (first:=[]) (h₀:=X.base) I.ok.mod.kin M.kp (thn (ha pos pins _ σ H1 _ I2 h) λus s2 ⟨vs,H2,I3,r,q2⟩=>⟨I3.kIn,?_⟩) hst (hpl _);exact zig (us:=us) (vs:=vs) a (hr.mono hle) b .nil zdS I3 r q2
end
end L2
namespace L2
open PySem PySem.Spec PyProof.Rows
section
variable {X:Cx}{x x2:Str}{scope:Scope}{pins:QE}{σ:St}{H:Hp}{s:Shared}
variable {iter elt:Expr}{ifs:List Expr}{px px2 tpos pos:Pos}{kt:Nat}{wi:TI}{tt:TT}{te:TE}
end
def zqk {X:Cx}:zbn (CX1 X.prog X.w) X E0:=λ_ _ _ _ _ _ _ h=>by obtain⟨ea,cls,od,H',T,h⟩:=h;simp only[E0,and_false] at h
end L2
namespace L2
open PySem PySem.Spec PyProof.Rows Px
structure MkrX (P:Program)(w:World)(K:QA)(mg:QB)(base:Heap)(x:Str)(C:Addr)(k:Nat)(ps:QP)(sp:Sp):Prop where
 ex:∃f fd,FnOk P w K mg base (CX1 P w) k f fd ps sp/\Binds K fd ps []/\Mk K C f/\mg x=some (.ref C)
section
variable {P:Program}{w:World}{K:QA}{mg:QB}{base:Heap}{x qual:Str}{C:Addr}{st:Stmt}{ps N:QP}{sp:Sp}{k:Nat}
def Mkd.okX (D:Mkd K mg x C qual st ps)(S:zr N ps (ze st))(len:∀vs H Q E,sp vs H Q E->vs.length=ps.length)
  (hbody:∀(f:Addr) (cdv:Value) (A:Around) (outer:List Env) (s:Shared) (H:Hp) (vs:QQ) (Q:VK) (E:XK),Room k (A.deeper (envOfC qual (ze st) s.heap.objs.size f cdv))->sp vs H Q E->
   ∃t,PSs (cxOf (CX1 P w) P w K mg base N qual (ze st) f cdv A outer s H E) (zD st) t/\t {nx:=λ_ H'=>Q .non H',rt:=Q} (start N vs) H):MkrX P w K mg base x C (k+1) ps sp:=by
 obtain⟨f,fd,F,b,mk,mm⟩:=D.ex;exact⟨f,fd,F.okX S len (λcdv A outer s H vs Q E hr h=>hbody f cdv A outer s H vs Q E hr h),b,mk,mm⟩
end
section
variable {X:Cx}{CX:CXT}{x:Str}{C f:Addr}{fd:FuncData}{ps:QP}{sp:Sp}{k k':Nat}{e:Expr}{es:List Expr}{t:TA}{p pos:Pos}{E:XK}{ES:St->XK}
end
section
variable {X:Cx}{K:QA}{o e:Expr}{es:List Expr}{to:TE}{t:TA}{name:Str}{apos cpos:Pos}{T id:String}{r:V->List V->Hp->VK->Prop}
end
end L2
namespace Pv
open PySem L2
def szl {n:Nat}(h:n<=1000):n<=sizeLine:=Nat.le_of_lt (zlT h)
instance decSign (c:Nat):Decidable (Sign c):=inferInstanceAs (Decidable (32<=c/\c<=126/\c≠37))
theorem zkO (x y:Str):(x++y).cps.toList=x.cps.toList++y.cps.toList:=by show(x.cps++y.cps).toList=_;simp
theorem zfs (x y:Str):(x++y).length=x.length+y.length:=by show(x.cps++y.cps).size=x.cps.size+y.cps.size;simp
def zv {H H1:Hp}{p:Addr}{o:HO}(sm:Same H H1)(h:H1 p=none):Same H (upd H1 p o):=λb u q=>by have q':=sm b u q;rw[zk (zm q' h)];exact q'
def zbU {H H1:Hp}{p:Addr}{o:HO}(sm:Same H H1)(h:H p=none):Same H (upd H1 p o):=λb u q=>by rw[zk (zm q h)];exact sm b u q
def zga {t u:TS}{D:L2.Ends}{σ:L2.St}{H:Hp}(Pq:L2.St->Hp->Prop)(a:∀N:L2.St->Hp->Prop,(∀σ H,Pq σ H->N σ H)->t {D with nx:=N} σ H)(rest:∀σ H,Pq σ H->u D σ H):tSeq t u D σ H:=a (u D) rest
abbrev znp:Stmt:=top 6
abbrev zju:Stmt:=top 7
abbrev zd6:Stmt:=top 8
def zhW:zr ["thing","folded","code"] ["thing"] (ze znp):=L2.fsc (by decide+kernel)
def zef:zr ["thing","raised","sevens","row","part"] ["thing"] (ze zju):=L2.fsc (by decide+kernel)
def zcr:zr ["signs","number","sign"] ["signs"] (ze zd6):=L2.fsc (by decide+kernel)
def zlc:Sp:=λvs H Q _=>∃x:Str,vs=[.str x]/\Q (.int (numOf x.cps.toList)) H
def zkP (n:Nat):Sp:=λvs H Q _=>∃(t:Th) (v:V),vs=[v]/\Rep H t v/\Wf t/\dep t < n/\nodes t<=100/\∀(r:Addr) (H':Hp),Same H H'->H' r=some (.lst ((zO t).map V.int))->Q (.ref r) H'
def zeY:Sp:=λvs H Q _=>∃(t:Th) (v:V),vs=[v]/\Rep H t v/\Wf t/\dep t < 10/\nodes t<=100/\∀(H':Hp),Same H H'->Q (.int (zj t)) H'
section
variable {P:Program}{w:World}{K:QA}{mg:QB}{base:Heap}
def zhT (D:Dfn K mg "number_of" zd6 ["signs"]) (m_ord:mg "ord" =none):Fn P w K mg base "number_of" 1 ["signs"] zlc:=by
 refine D.ok (k:=0) zcr (λvs H Q E h=>?_) (λf cdv A outer s H vs Q E hr h=>?_)
 ·obtain⟨x,rfl,_⟩:=h;rfl
 obtain⟨x,rfl,q⟩:=h;refine⟨_,(zb (zu (i:=1) zcr.nd rfl (Or.inl rfl) zo)
 (zb (za1 PassesOwn.never rfl (zn5 (pv 0)) (zZ (i:=2) zcr.nd rfl (Or.inl rfl))
 (zd (zu (i:=1) zcr.nd rfl (Or.inl rfl) (zG zbA (zG zhI (pv 1) zo) (zF (zis) (by rfl) m_ord (by rfl) (za (pv 2) zc))))))
 (zd (zq (pv 1))))),?_⟩
 refine⟨_,rfl,x,rfl,?_⟩;refine zkH (z:=x) (λi σ H'=>H'=H/\∃kk,σ=[some (.str x),some (.int (numOf (x.cps.toList.take i))),kk]) ⟨rfl,_,rfl⟩ ?_ ?_
 ·rintro i c σ H' hc ⟨rfl,kk,rfl⟩;refine⟨_,rfl,_,_,rfl,rfl,.inr ⟨by decide,by decide⟩,_,rfl,_,rfl,rfl,_,_,rfl,rfl,rfl,some (.str ⟨#[c]⟩),?_⟩;have e:x.cps.toList.take (i+1)=x.cps.toList.take i++ [c]:=by rw[List.take_add_one,Array.getElem?_toList,hc];rfl
  rw[e,zjx]
  rfl
 ·rintro σ H' ⟨rfl,kk,rfl⟩;refine⟨_,rfl,?_⟩;have e:x.cps.toList.take x.cps.size=x.cps.toList:=List.take_of_length_le (by simp);rw[e];exact q
theorem ziw (D:Dfn K mg "codes" zju ["thing"]) (zfy:Fn P w K mg base "number_of" 1 ["signs"] zlc) (zt:mg "isinstance" =none) (zbr:mg "int" =none) (zdv:mg "str" =none) (zbO:mg "range" =none) (zR:mg "len" =none):
  ∀n:Nat,Fn P w K mg base "codes" (n+2) ["thing"] (zkP n)
 | 0=>D.never λvs H Q E h=>by obtain⟨t,v,_,_,_,h1,_⟩:=h;omega
 | n+1=>by
  have zik:=ziw D zfy zt zbr zdv zbO zR n;refine D.ok (k:=n+2) zef (λvs H Q E h=>?_) (λf cdv A outer s H vs Q E hr h=>?_)
  ·obtain⟨t,v,rfl,_⟩:=h;rfl
  obtain⟨t,v,rfl,hrep,hwf,hdep,hnod,q⟩:=h;have hlen:=zeZ t hwf;refine⟨_,(zb (zN (zB zd3 (pv 0) zch (zA _))
 (zd (zq (za0 (za zo zc))))
 zy)
 (zb (zN (zah (zF (zW) (by rfl) zt (by rfl) (za (pv 0) (za (zaV (v:=.ty "int") (by rfl) zbr (by rfl) rfl) zc))))
 (zb (zu (i:=1) zef.nd rfl (Or.inl rfl) (zG zbA (pv 0) (zG zgw zo zo)))
 (zd (zq (za0 (za zo (za (zG zaA (pv 1) (zG zgw zo zo)) (za (zG zau (pv 1) (zG zgw zo zo)) zc)))))))
 zy)
 (zb (zN (zah (zF (zW) (by rfl) zt (by rfl) (za (pv 0) (za (zaV (v:=.ty "str") (by rfl) zdv (by rfl) rfl) zc))))
 (zb (zgM (i:=2) (zV.one (y:= "thing") (j:=0) (c:=s.heap.objs.size+1) (by rfl) (by rfl) (by decide+kernel) (by decide+kernel) (by rfl) (by decide+kernel) (by rfl) (by decide+kernel) (by rfl) (by first | exact Or.inl rfl | exact Or.inr rfl) (by first | exact Or.inl rfl | exact Or.inr rfl)) rfl (zha rfl zbO (za zo (za (zF (zbg.or zT zb6) (by rfl) zR (by rfl) (za (pv 0) zc)) (za zo zc)))) (λ_ _ _=>zeg) (λ_ _ _=>(zcf zqG (pv 1) (zb5 (pv 0)) (zb5 (zG zbA (pv 0) zo)))) zef.nd rfl (Or.inl rfl) (by rfl))
 (zd (zq (zG zqi (za0 (za zo (za (zF (zbg.or zT zb6) (by rfl) zR (by rfl) (za (pv 0) zc)) zc))) (zgD (zV.zero (by rfl) (by decide+kernel) (by decide+kernel) (by decide+kernel) (by rfl)) rfl (zcn (pv 2)) (λ_ _ _=>zeg) (λ_ _ _=>(zK zfy hr (by omega) (by rfl) (za (pv 0) zc))))))))
 zy)
 (zb (zu (i:=3) zef.nd rfl (Or.inl rfl) (za0 (za zo (za (zF (zbg.or zT zb6) (by rfl) zR (by rfl) (za (pv 0) zc)) zc))))
 (zb (za1 PassesOwn.never rfl (zhR (pv 0)) (zZ (i:=4) zef.nd rfl (Or.inl rfl))
 (zd (zax (zhi PySem.F.plainAttrs_list PySem.F.slot_list_extend PySem.F.type_list_extend zl8 (pv 3) (za (zK zik hr (by omega) (by rfl) (za (pv 4) zc)) zc)))))
 (zd (zq (pv 3)))))))),?_⟩
  refine⟨_,rfl,rfl,_,rfl,?_⟩;cases hrep with
  | non=>refine ifT (by decide) ?_;refine⟨szl (show 1<=1000 by decide),λp hp=>?_⟩;exact q p _ (Frm.new hp).same zg
  | int i=>refine ifF (by rfl) ?_;refine⟨_,rfl,_,_,_,_,rfl,.int i,rfl,_,rfl,?_⟩;refine ifT rfl ?_;refine⟨_,rfl,_,_,rfl,rfl,⟨by decide,by decide,by decide⟩,_,_,rfl,rfl,?_⟩;refine⟨_,rfl,_,_,rfl,rfl,⟨by decide,by decide,by decide⟩,_,_,rfl,rfl,⟨by decide+kernel,by decide+kernel⟩,_,rfl,_,_,rfl,rfl,⟨by decide,by decide,by decide⟩,_,_,rfl,rfl,(show(0:Int) < 10 ^ (15:Int).toNat by decide+kernel),szl (show 3<=1000 by decide),λp hp=>?_⟩;exact q p _ (Frm.new hp).same zg
  | str x=>
   have hx:x.length<=60:=hwf.1;refine ifF (by rfl) ?_;refine⟨_,rfl,_,_,_,_,rfl,.str x,rfl,_,rfl,?_⟩;refine ifF rfl ?_;refine⟨_,rfl,_,_,_,_,rfl,.str x,rfl,_,rfl,?_⟩;refine ifT rfl ?_;refine⟨_,rfl,.inr ⟨x,rfl,szl (by omega),?_⟩⟩;refine⟨_,_,rfl,by omega,by omega,by decide,by decide,λp hp=>?_⟩;rw[zlC];refine zdG (J:=Itrs 0 7 (zbZ x)) (n:=zbZ x) (λi acc H'=>acc=(List.range i).map (λk=>V.str (zhF x k))/\H'=upd H p (.lst acc)) ⟨rfl,rfl⟩ (by exact λi acc H' hi _=>hi) (by exact λacc H' _=>Jb _) ?_ ?_
   ·rintro i acc H' y H'' hi ⟨ha,rfl⟩ ⟨e1,e2⟩;subst e1 e2;refine tt1 ?_;refine⟨_,rfl,_,rfl,_,rfl,_,rfl,_,_,rfl,rfl,_,rfl,x,rfl,szl (by omega),?_⟩;have hal:acc.length=i:=by rw[ha,List.length_map,List.length_range]
    refine⟨zg,Jg (show acc.length < 1000 by unfold zbZ at hi;omega) (szl (Jb _)),nxt hi ⟨?_,zky⟩⟩;rw[List.range_succ,List.map_append,ha,zme hi]
    rfl
   ·rintro acc H' ⟨ha,rfl⟩;refine⟨_,rfl,.inr ⟨x,rfl,szl (by omega),szl (show 2<=1000 by decide),λp2 hp2=>?_⟩⟩;have np:p≠p2:=λz=>by rw[<-z,zg] at hp2;cases hp2
    have ep:upd (upd H p (.lst acc)) p2 (.lst [.int 3,.int (x.length:Nat)]) p=some (.lst acc):=by rw[zk np];exact zg
    have hal:acc.length=zbZ x:=by rw[ha,List.length_map,List.length_range]
    refine⟨_,rfl,p,rfl,⟨_,SqL.of ep⟩,λp3 hp3=>?_⟩;have np3:p≠p3:=(zm ep hp3);have np23:p2≠p3:=(zm zg hp3);refine zdG (n:=zbZ x) (λi acc' H'=>acc'=(List.range i).map (λk=>V.int (numOf (chunk x k)))/\H'=upd (upd (upd H p (.lst acc)) p2 (.lst [.int 3,.int (x.length:Nat)])) p3 (.lst acc')) ⟨rfl,rfl⟩ ?_ ?_ ?_ ?_
    ·rintro i acc' H' hi ⟨_,rfl⟩;exact⟨acc,acc[i],SqL.of (by rw[zk np3];exact ep),by rw[List.getElem?_eq_getElem]⟩
    ·rintro acc' H' ⟨_,rfl⟩;exact⟨acc,SqL.of (by rw[zk np3];exact ep),by omega⟩
    ·rintro i acc' H' y H'' hi ⟨ha',rfl⟩ ⟨e1,e2⟩;subst e1;have ey:=e2 acc (SqL.of (by rw[zk np3];exact ep));have ey2:y=V.str (zhF x i):=by rw[ha,List.getElem?_map,List.getElem?_range hi] at ey;exact(Option.some.inj ey).symm
     subst ey2;refine tt1 ?_;refine⟨_,rfl,_,rfl,zg,?_,nxt hi ⟨?_,zky⟩⟩
     ·have:acc'.length=i:=by rw[ha',List.length_map,List.length_range]
      exact Jg (show acc'.length < 1000 by unfold zbZ at hi;omega) (szl (Jb _))
     ·rw[List.range_succ,List.map_append,ha']
      rfl
    ·rintro acc' H' ⟨ha',rfl⟩;have hal':acc'.length=zbZ x:=by rw[ha',List.length_map,List.length_range]
     refine⟨p2,p3,[.int 3,.int (x.length:Nat)],acc',rfl,rfl,by rw[zk np23];exact zg,zg,szl (show 2+acc'.length<=1000 by unfold zbZ at hal';omega),λr hr'=>?_⟩
     refine q r _ (λb o hb=>?_) ?_
     ·have n1:=zm hb hp;have e1:upd H p (.lst acc) b=some o:=by rw[zk n1];exact hb
      have n2:=zm e1 hp2;have e2:upd (upd H p (.lst acc)) p2 (.lst [.int 3,.int (x.length:Nat)]) b=some o:=by rw[zk n2];exact e1
      have n3:=zm e2 hp3;have e3:upd (upd (upd H p (.lst acc)) p2 (.lst [.int 3,.int (x.length:Nat)])) p3 (.lst acc') b=some o:=by rw[zk n3];exact e2
      rw[zk (zm e3 hr')];exact e3
     ·rw[zg,ha'];show some (HO.lst ([V.int 3,V.int (x.length:Nat)]++_))=some (HO.lst (([3,(x.length:Int)]++zeR x).map V.int));rw[List.map_append];unfold zeR;rw[List.map_map]
      rfl
  | @tup a xs ts e hl hrs=>
   have hw:ts.length<=40:=hwf.1;refine ifF (by rfl) ?_;refine⟨_,rfl,_,_,_,_,rfl,.tup e,rfl,_,rfl,?_⟩;refine ifF rfl ?_;refine⟨_,rfl,_,_,_,_,rfl,.tup e,rfl,_,rfl,?_⟩;refine ifF rfl ?_;refine⟨_,rfl,.inl ⟨a,_,rfl,.inr (SqT.of e),szl (show 2<=1000 by decide),λrw hrw=>?_⟩⟩;have nra:a≠rw:=zm e hrw;have keepT:∀{H':Hp},Same H H'->Tups H H':=λz=>Same.tups z;refine⟨_,rfl,a,rfl,⟨_,SqT.of (by rw[zk nra];exact e)⟩,?_⟩;refine zkY (xs:=xs) (λi σ H'=>∃kk,σ=[some (.ref a),none,none,some (.ref rw),kk]/\Same H H'/\H' rw=some (.lst (([4,(ts.length:Int)]++zan (ts.take i)).map V.int))) ⟨_,rfl,(Frm.new hrw).same,?_⟩ ?_ ?_ ?_
   ·rw[zg,hl]
    rfl
   ·rintro i σ H' hi ⟨kk,rfl,sm,er⟩;exact SqT.of (sm _ _ e)
   ·rintro i x σ H' hx ⟨kk,rfl,sm,er⟩;have hil:i < ts.length:=by rw[<-hl];exact(List.getElem?_eq_some_iff.mp hx).1
    have ht:ts[i]? =some ts[i]:=List.getElem?_eq_getElem hil;have hcl:=zdY ts hwf.2;have hcl':=zc7 ts i;have hcn:1+zbe ts<=100:=hnod;have hsub:nodes ts[i]<=zbe ts:=zgv ht;refine⟨_,rfl,.inl ⟨rfl,_,SqL.of er⟩,_,rfl,ts[i],x,rfl,(hrs i x _ hx ht).keep (keepT sm),hwf.2.get ht,?_,by omega,λr H2 sm2 er2=>?_⟩
    ·have:=zck ht;have:depL ts+1 < n+1:=hdep;omega
    have hc1:=zeZ ts[i] (hwf.2.get ht);refine⟨rw,r,_,_,rfl,rfl,sm2 _ _ er,er2,szL ?_,?_⟩
    ·simp only[List.length_map,List.length_append,List.length_cons,List.length_nil];omega
    ·refine⟨_,rfl,λb o hb=>?_,?_⟩
     ·rw[zk (zm hb hrw)];exact sm2 _ _ (sm _ _ hb)
     ·rw[zg,ziU ht];simp only[List.map_append,List.append_assoc]
   ·rintro σ H' ⟨kk,rfl,sm,er⟩;refine⟨_,rfl,q rw H' sm ?_⟩;rw[er,hl,List.take_length]
    rfl
def zpw (D:Dfn K mg "seal" znp ["thing"]) (zik:Fn P w K mg base "codes" 12 ["thing"] (zkP 10)):Fn P w K mg base "seal" 13 ["thing"] zeY:=by
 refine D.ok (k:=12) zhW (λvs H Q E h=>?_) (λf cdv A outer s H vs Q E hr h=>?_)
 ·obtain⟨t,v,rfl,_⟩:=h;rfl
 obtain⟨t,v,rfl,hrep,hwf,hdep,hnod,q⟩:=h;refine⟨_,(zb (zu (i:=1) zhW.nd rfl (Or.inl rfl) zo)
 (zb (za1 PassesOwn.never rfl (zcn (zK zik hr (by omega) (by rfl) (za (pv 0) zc))) (zZ (i:=2) zhW.nd rfl (Or.inl rfl))
 (zd (zu (i:=1) zhW.nd rfl (Or.inl rfl) (zG zau (zG zbA (zG zhI (pv 1) zo) (pv 2)) (zG zeS (zG zgw zo zo) zo)))))
 (zd (zq (zG zbA (pv 1) zo))))),?_⟩
 refine⟨_,rfl,t,v,rfl,hrep,hwf,hdep,hnod,λr H1 sm er=>?_⟩;refine⟨r,rfl,⟨_,SqL.of er⟩,?_⟩;refine zds (xs:=(zO t).map V.int) (λi σ H'=>H'=H1/\∃kk,σ=[some v,some (.int (zeo ((zO t).take i))),kk]) ⟨rfl,_,rfl⟩ ?_ ?_ ?_
 ·rintro i σ H' _ ⟨rfl,_⟩;exact SqL.of er
 ·rintro i x σ H' hx ⟨rfl,kk,rfl⟩;rw[List.getElem?_map] at hx;obtain⟨c,hc,rfl⟩:=Option.map_eq_some_iff.mp hx;have rg:=zfk ((zO t).take i);have e61:(2:Int) ^ (61:Int).toNat - 1=2305843009213693951:=by decide+kernel
  refine⟨_,rfl,_,_,rfl,rfl,.inl ⟨by omega,by omega⟩,_,rfl,_,_,rfl,rfl,_,_,rfl,rfl,⟨by decide,by decide,by decide⟩,_,_,rfl,rfl,_,_,rfl,rfl,(show(0:Int) < 2 ^ (61:Int).toNat - 1 by decide+kernel),rfl,some (.int c),?_⟩;rw[zjV hc,<-e61]
  rfl
 ·rintro σ H' ⟨rfl,kk,rfl⟩;refine⟨_,rfl,_,_,rfl,rfl,?_⟩;rw[List.length_map,List.take_length];exact q _ sm
end
abbrev zgm:Stmt:=top 19
abbrev zji:Stmt:=top 20
abbrev zbb:Stmt:=top 21
def zl5:zr ["thing"] ["thing"] (ze zgm):=L2.fsc (by decide+kernel)
def zkh:zr ["one","other","kind"] ["one","other"] (ze zji):=L2.fsc (by decide+kernel)
def zbF:zr ["one","other","mine","its"] ["one","other"] (ze zbb):=L2.fsc (by decide+kernel)
def zm5:Sp:=λvs H Q _=>∃(t:Th) (v:V),vs=[v]/\Rep H t v/\Q (.int (za6 t)) H
def zfV (n:Nat):Sp:=λvs H Q _=>∃(t u:Th) (v w:V),vs=[v,w]/\Rep H t v/\Rep H u w/\dep t < n/\dep t<=40/\∀H':Hp,Same H H'->Q (.bl (zh t u)) H'
def znA (n:Nat):Sp:=λvs H Q _=>∃(ts us:List Th) (v w:V),vs=[v,w]/\Rep H (.tup ts) v/\Rep H (.tup us) w/\depL ts < n/\depL ts<=39/\∀H':Hp,Same H H'->Q (.bl (zbC ts us)) H'
section
variable {P:Program}{w:World}{K:QA}{mg:QB}{base:Heap}
def zoU (D:Dfn K mg "kind_of" zgm ["thing"]) (zt:mg "isinstance" =none) (zbr:mg "int" =none) (zdv:mg "str" =none):Fn P w K mg base "kind_of" 1 ["thing"] zm5:=by
 refine D.ok (k:=0) zl5 (λvs H Q E h=>?_) (λf cdv A outer s H vs Q E hr h=>?_)
 ·obtain⟨t,v,rfl,_⟩:=h;rfl
 obtain⟨t,v,rfl,rt,q⟩:=h;refine⟨_,(zb (zN (zB zd3 (pv 0) zch (zA _))
 (zd (zq zo))
 zy)
 (zb (zN (zah (zF (zW) (by rfl) zt (by rfl) (za (pv 0) (za (zaV (v:=.ty "int") (by rfl) zbr (by rfl) rfl) zc))))
 (zd (zq zo))
 zy)
 (zb (zN (zah (zF (zW) (by rfl) zt (by rfl) (za (pv 0) (za (zaV (v:=.ty "str") (by rfl) zdv (by rfl) rfl) zc))))
 (zd (zq zo))
 zy)
 (zd (zq zo))))),?_⟩
 refine⟨_,rfl,rfl,_,rfl,?_⟩;cases rt with
 | non=>exact ifT (by decide) q
 | int i=>refine ifF (by rfl) ?_;refine⟨_,rfl,_,_,_,_,rfl,.int i,rfl,_,rfl,?_⟩;exact ifT rfl q
 | str x=>refine ifF (by rfl) ?_;refine⟨_,rfl,_,_,_,_,rfl,.str x,rfl,_,rfl,?_⟩;refine ifF rfl ?_;refine⟨_,rfl,_,_,_,_,rfl,.str x,rfl,_,rfl,?_⟩;exact ifT rfl q
 | tup e l h=>refine ifF (by rfl) ?_;refine⟨_,rfl,_,_,_,_,rfl,.tup e,rfl,_,rfl,?_⟩;refine ifF rfl ?_;refine⟨_,rfl,_,_,_,_,rfl,.tup e,rfl,_,rfl,?_⟩;exact ifF rfl q
def zlw {n:Nat}(D:Dfn K mg "is_tuple_ahead" zbb ["one","other"]) (zeG:Fn P w K mg base "ahead" (2 * n+2) ["one","other"] (zfV n)) (zhB:mg "zip" =none) (zR:mg "len" =none):Fn P w K mg base "is_tuple_ahead" (2 * n+3) ["one","other"] (znA n):=by
 refine D.ok (k:=2 * n+2) zbF (λvs H Q E h=>?_) (λf cdv A outer s H vs Q E hr h=>?_)
 ·obtain⟨ts,us,v,w,rfl,_⟩:=h;rfl
 obtain⟨ts,us,v,w,rfl,r1,r2,hd,hd40,q⟩:=h;cases r1 with
 | @tup a xs _ e1 l1 h1=>
 cases r2 with
 | @tup b ys _ e2 l2 h2=>
 refine⟨_,(zb (za1 PassesOwn.never rfl (zqq (by rfl) zhB (za (pv 0) (za (pv 1) zc))) (zjp rfl (zcF (zZ (i:=2) zbF.nd rfl (Or.inl rfl)) (zcF (zZ (i:=3) zbF.nd rfl (Or.inl rfl)) zia)))
 (zd (zN (zB (zei hr) (pv 2) (pv 3) (zA _))
 (zd (zq (zK zeG hr (by omega) (by rfl) (za (pv 2) (za (pv 3) zc)))))
 zy)))
 (zd (zq (zaF ziD (zF (zT) (by rfl) zR (by rfl) (za (pv 0) zc)) (zF (zT) (by rfl) zR (by rfl) (za (pv 1) zc)) (zA _))))),?_⟩
 refine⟨_,rfl,_,rfl,a,b,xs,ys,rfl,SqT.of e1,SqT.of e2,?_⟩;refine zo1 (K:=K) (p:=a) (q:=b) (xs:=xs) (us:=ys) (λi σ H'=>∃k2 k3,σ=[some (.ref a),some (.ref b),k2,k3]/\Same H H'/\zbC ts us=zbC (ts.drop i) (us.drop i)) ⟨_,_,rfl,Same.refl _,rfl⟩ ?_ ?_ ?_
 ·rintro i σ H1 ⟨k2,k3,rfl,sm,_⟩;exact⟨SqT.of (sm _ _ e1),SqT.of (sm _ _ e2)⟩
 ·rintro i x u T σ H1 hx hu hT ⟨k2,k3,rfl,sm,ea⟩;have hi:i < ts.length:=by rw[<-l1];exact(List.getElem?_eq_some_iff.mp hx).1
  have hj:i < us.length:=by rw[<-l2];exact(List.getElem?_eq_some_iff.mp hu).1
  have ht:ts[i]? =some ts[i]:=List.getElem?_eq_getElem hi;have hv:us[i]? =some us[i]:=List.getElem?_eq_getElem hj;have tk:Tups H (upd H1 T (.tup [x,u])):=(Same.tups sm).trans (Tups.new hT);have ra:=(h1 i x _ hx ht).keep tk;have rb:=(h2 i u _ hu hv).keep tk;have hdi:=zck ht;refine⟨T,_,rfl,SqT.of zg,rfl,_,_,rfl,_,_,rfl,rfl,?_⟩;refine⟨_,rfl,_,rfl,ts[i],us[i],ra,rb,by omega,_,rfl,?_⟩;have sm':Same H (upd H1 T (.tup [x,u])):=λc o hc=>by rw[zk (zm (sm _ _ hc) hT)];exact sm _ _ hc
  rw[ziO hi hj] at ea;refine ifB (λc=>?_) (λc=>?_)
  ·have ne:¬eqT ts[i] us[i]=true:=by intro z;rw[z] at c;cases c
   rw[if_neg ne] at ea;refine⟨_,rfl,_,rfl,ts[i],us[i],_,_,rfl,ra,rb,by omega,by omega,λH2 s2=>?_⟩;rw[<-ea];exact q H2 (sm'.trans s2)
  ·have eq:eqT ts[i] us[i]=true:=by
    cases z:eqT ts[i] us[i] with
    | true=>rfl
    | false=>rw[z] at c;cases c
   rw[if_pos eq] at ea;exact⟨_,_,rfl,sm',ea⟩
 ·rintro σ H1 ⟨k2,k3,rfl,sm,ea⟩;refine⟨_,rfl,a,_,rfl,.inr (SqT.of (sm _ _ e1)),_,rfl,b,_,rfl,.inr (SqT.of (sm _ _ e2)),_,_,rfl,rfl,?_⟩;rw[l1,l2,zjy] at ea;have ed:decide ((xs.length:Int) < (ys.length:Int))=zbC ts us:=by rw[ea,l1,l2];rw[Bool.eq_iff_iff];simp
  show Q (.bl (decide ((xs.length:Int) < (ys.length:Int)))) H1;rw[ed];exact q H1 sm
theorem zi0 (Da:Dfn K mg "ahead" zji ["one","other"]) (Dt:Dfn K mg "is_tuple_ahead" zbb ["one","other"]) (zdL:Fn P w K mg base "kind_of" 1 ["thing"] zm5) (zhB:mg "zip" =none) (zR:mg "len" =none) (zt:mg "isinstance" =none) (zay:mg "tuple" =none):
  ∀n:Nat,Fn P w K mg base "ahead" (2 * n+2) ["one","other"] (zfV n)
 | 0=>Da.never λvs H Q E h=>by obtain⟨t,u,v,w,_,_,_,h1,_⟩:=h;omega
 | n+1=>by
  have zfa:=zlw Dt (zi0 Da Dt zdL zhB zR zt zay n) zhB zR;refine Da.ok (k:=2 * n+3) zkh (λvs H Q E h=>?_) (λf cdv A outer s H vs Q E hr h=>?_)
  ·obtain⟨t,u,v,w,rfl,_⟩:=h;rfl
  obtain⟨t,u,v,w,rfl,r1,r2,hd,hd40,q⟩:=h;refine⟨_,(zb (zu (i:=2) zkh.nd rfl (Or.inl rfl) (zK zdL hr (by omega) (by rfl) (za (pv 0) zc)))
 (zb (zN (zB zee (pv 2) (zK zdL hr (by omega) (by rfl) (za (pv 1) zc)) (zA _))
 (zd (zq (zaF ziD (pv 2) (zK zdL hr (by omega) (by rfl) (za (pv 1) zc)) (zA _))))
 zy)
 (zb (zN (zB zd3 (pv 0) zch (zA _))
 (zd (zq zb2))
 zy)
 (zb (zN (zah (zF (zW) (by rfl) zt (by rfl) (za (pv 0) (za (zaV (v:=.ty "tuple") (by rfl) zay (by rfl) rfl) zc))))
 (zd (zq (zK zfa hr (by omega) (by rfl) (za (pv 0) (za (pv 1) zc)))))
 zy)
 (zd (zq (zaF (OpR.or ziD zlx) (pv 0) (pv 1) (zA _)))))))),?_⟩
  refine⟨_,rfl,t,v,rfl,r1,?_⟩;refine⟨_,rfl,_,rfl,u,w,rfl,r2,rfl,_,rfl,?_⟩;rw[zcO];refine ifB (λc=>?_) (λc=>?_)
  ·have ne:za6 t≠za6 u:=λz=>by rw[decide_eq_true z] at c;cases c
   refine⟨_,rfl,_,rfl,u,w,rfl,r2,_,_,rfl,rfl,?_⟩;show Q (.bl (decide (za6 t < za6 u))) H;rw[<-ziZ ne];exact q H (Same.refl _)
  ·have eq:za6 t=za6 u:=by
    by_cases z:za6 t=za6 u
    ·exact z
    ·rw[Je z] at c;cases c
   refine⟨_,rfl,rfl,_,rfl,?_⟩;cases r1 with
   | non=>
    refine ifT (by decide) ?_;cases r2 with
    | non=>exact q H (Same.refl _)
    | int i=>exact Jh eq (by show(0:Int)≠1;decide)
    | str x=>exact Jh eq (by show(0:Int)≠2;decide)
    | tup e l h=>exact Jh eq (by show(0:Int)≠3;decide)
   | int i=>
    refine ifF (by rfl) ?_;refine⟨_,rfl,_,_,_,_,rfl,.int i,rfl,_,rfl,?_⟩;refine ifF rfl ?_;cases r2 with
    | non=>exact Jh eq (by show(1:Int)≠0;decide)
    | int j=>exact⟨_,rfl,_,rfl,.inl ⟨_,_,rfl,rfl,q H (Same.refl _)⟩⟩
    | str x=>exact Jh eq (by show(1:Int)≠2;decide)
    | tup e l h=>exact Jh eq (by show(1:Int)≠3;decide)
   | str x=>
    refine ifF (by rfl) ?_;refine⟨_,rfl,_,_,_,_,rfl,.str x,rfl,_,rfl,?_⟩;refine ifF rfl ?_;cases r2 with
    | non=>exact Jh eq (by show(2:Int)≠0;decide)
    | int j=>exact Jh eq (by show(2:Int)≠1;decide)
    | str y=>exact⟨_,rfl,_,rfl,.inr ⟨_,_,rfl,rfl,q H (Same.refl _)⟩⟩
    | tup e l h=>exact Jh eq (by show(2:Int)≠3;decide)
   | @tup a xs ts e l h=>
    refine ifF (by rfl) ?_;refine⟨_,rfl,_,_,_,_,rfl,.tup e,rfl,_,rfl,?_⟩;refine ifT rfl ?_;cases r2 with
    | non=>exact Jh eq (by show(3:Int)≠0;decide)
    | int j=>exact Jh eq (by show(3:Int)≠1;decide)
    | str y=>exact Jh eq (by show(3:Int)≠2;decide)
    | @tup b ys us e' l' h'=>have hd':depL ts+1 < n+1:=hd;have hd'':depL ts+1<=40:=hd40;exact⟨_,rfl,_,rfl,ts,us,_,_,rfl,.tup e l h,.tup e' l' h',by omega,by omega,λH2 s2=>q H2 s2⟩
end
end Pv
namespace L2
open PySem PySem.Spec PyProof.Rows
section
variable {X:Cx}{e:Expr}{es:List Expr}{te:TE}{pos:Pos}
def zhu:OpR X (compareOp .LtE) (λx y H Q=>∃i j,x=.str i/\y=.str j/\Q (.bl (!decide (j.cps.toList < i.cps.toList))) H):=by intro pins s σ H x y v u Q I rx ry h;obtain⟨i,j,rfl,rfl,q⟩:=h;obtain⟨t,rfl⟩:=rx;obtain⟨t',rfl⟩:=ry;exact PySem.P.le_str (zS I q rfl)
end
end L2
namespace Pv
open PySem L2 PyProof.Rows PySem.NumText
def tx (l:List Nat):Str:=⟨l.toArray⟩
def numL (i:Int):List Nat:=(Str.ofString (toString i)).cps.toList
mutual
def wrT:Th->List Nat
 | .non=>[111]
 | .int i=>110::(numL i++ [59])
 | .str x=>116::(numL x.length++58::x.cps.toList)
 | .tup ts=>40::(wrL ts++ [41])
def wrL:List Th->List Nat
 | []=>[]
 | t::r=>wrT t++wrL r
end
noncomputable abbrev _root_.JB:=@of_decide_eq_false
theorem zkE:∀a b:List Int,HT.lexLt a b=false->HT.lexLt b a=false->a=b
 | [],[],_,_=>rfl
 | [],_::_,h,_=>by cases h
 | _::_,[],_,h=>by cases h
 | x::a,y::b,h1,h2=>by
  rw[HT.lexLt_cons] at h1 h2;by_cases e:x=y
  ·rw[if_pos e] at h1;rw[if_pos e.symm] at h2;rw[e,zkE a b h1 h2]
  ·rw[if_neg e] at h1;rw[if_neg (λz=>e z.symm)] at h2;have:=JB h1;have:=JB h2;omega
noncomputable abbrev _root_.Ju:=@of_decide_eq_true
theorem zkr:∀a b c:List Int,HT.lexLt a c=true->HT.lexLt a b=true\/HT.lexLt b c=true
 | [],[],[],h=>by cases h
 | [],[],_::_,_=>.inr rfl
 | [],_::_,_,_=>.inl rfl
 | _::_,_,[],h=>by cases h
 | _::_,[],_::_,_=>.inr rfl
 | x::a,y::b,z::c,h=>by
  rw[HT.lexLt_cons] at h;rw[HT.lexLt_cons,HT.lexLt_cons];by_cases e1:x=y
  ·by_cases e2:y=z
   ·rw[if_pos (e1.trans e2)] at h;rw[if_pos e1,if_pos e2];exact zkr a b c h
   ·rw[if_neg (λq=>e2 (e1.symm.trans q))] at h;rw[if_neg e2];have:=Ju h;exact .inr (decide_eq_true (by omega))
  ·by_cases e2:y=z
   ·rw[if_neg (λq=>e1 (q.trans e2.symm))] at h;rw[if_neg e1];have:=Ju h;exact .inl (decide_eq_true (by omega))
   ·rw[if_neg e1,if_neg e2];by_cases hx:x < y
    ·exact .inl (decide_eq_true hx)
    ·refine .inr (decide_eq_true ?_);by_cases e3:x=z
     ·omega
     ·rw[if_neg e3] at h;have:=Ju h;omega
def zoP {t u:Th}(h:rowT t=rowT u):t=u:=by refine Classical.byContradiction λne=>?_;have e1:=zkI t u [0] [1] ne;have e2:=zkI t u [1] [0] ne;rw[h,zid] at e1 e2;rw[<-e1] at e2;exact Jh e2 (by decide)
def zlz {t u:Th}(h1:zh t u=false)(h2:zh u t=false):t=u:=zoP (zkE _ _ (by rw[zbz];exact h1) (by rw[zbz];exact h2))
theorem zat {t u:Th}(h:zh t u=true):zh u t=false:=by
 cases e:zh u t with
 | false=>rfl
 | true=>
  rw[<-zbz] at h e;have:∀a b:List Int,HT.lexLt a b=true->HT.lexLt b a=true->False:=λa b=>by
   induction a generalizing b with
   | nil=>intro p q;cases b <;> cases q
   | cons x a ih=>
    intro p q;cases b with
    | nil=>cases p
    | cons y b=>
     rw[HT.lexLt_cons] at p q;by_cases z:x=y
     ·rw[if_pos z] at p;rw[if_pos z.symm] at q;exact ih b p q
     ·rw[if_neg z] at p;rw[if_neg (λk=>z k.symm)] at q;have:=Ju p;have:=Ju q;omega
  exact(this _ _ h e).elim
end Pv
namespace Pv
open PySem L2
abbrev zaf:Stmt:=inClass (top 24) 0
def zcE:zr ["self"] ["self"] (ze zaf):=L2.fsc (by decide+kernel)
abbrev zQ:Stmt:=inClass (top 24) 1
def zdt:zr ["self","number","thing"] ["self","number","thing"] (ze zQ):=L2.fsc (by decide+kernel)
abbrev zbE:Stmt:=inClass (top 24) 2
def zfr:zr ["self","thing","number"] ["self","thing"] (ze zbE):=L2.fsc (by decide+kernel)
abbrev zaE:Stmt:=inClass (top 24) 3
def zdO:zr ["self","number"] ["self","number"] (ze zaE):=L2.fsc (by decide+kernel)
abbrev za9:Stmt:=inClass (top 4) 0
def zeW:zr ["self","one","other"] ["self","one","other"] (ze za9):=L2.fsc (by decide+kernel)
structure Good (t:Th):Prop where
 wf:Wf t
 dp:dep t<=5
 nd:nodes t<=80
structure Flds (fs:List (Str ×V))(d:Addr):Prop where
 la:fs.lookup ("laid" :Str)=some (V.ref d)
 n1:fs.lookup ("refuse_clash" :Str)=none
 n2:fs.lookup ("lay" :Str)=none
 n3:fs.lookup ("thing" :Str)=none
 n4:fs.lookup ("things" :Str)=none
 n5:fs.lookup ("paper" :Str)=none
def zmT (d:Addr):Flds [("laid",.ref d)] d:=⟨rfl,rfl,rfl,rfl,rfl,rfl⟩
structure VOk (H:Hp)(C a d:Addr)(kvs:QG):Prop where
 ob:∃dx fs,H a=some (.ins C dx fs)/\Flds fs d
 di:H d=some (.dK kvs)
def VOk.keep {H H':Hp}{C a d:Addr}{kvs:QG}(v:VOk H C a d kvs)(s:Same H H'):VOk H' C a d kvs:=by obtain⟨⟨dx,fs,e,f⟩,e2⟩:=v;exact⟨⟨dx,fs,s _ _ e,f⟩,s _ _ e2⟩
def zcX (H:Hp)(kvs:QG):Prop:=∀(n:Int) (v:V),valV kvs (.inl n)=some v->∃t,Rep H t v/\Good t/\zj t=n
def zcX.keep {H H':Hp}{kvs:QG}(l:zcX H kvs)(s:Tups H H'):zcX H' kvs:=λn v e=>by obtain⟨t,r,g⟩:=l n v e;exact⟨t,r.keep s,g⟩
def zhL (E:XK)(CC:Addr)(H:Hp)(t1 t2:Th)(v1 v2:V):Prop:=∀(H':Hp) (x:Addr),Same H H'->H' x=some (xdO x [("one",v1),("other",v2)])->E (.ref CC) (some x) H'
def zcv (C:Addr):Sp:=λvs H Q _=>∃(a dx:Addr),vs=[.ref a]/\H a=some (.ins C dx [])/\∀d,H d=none->Q .non (upd (upd H d (.dK [])) a (.ins C dx [("laid",.ref d)]))
def zlg (CC:Addr):Sp:=λvs H Q _=>∃(x:Addr) (v1 v2:V),vs=[.ref x,v1,v2]/\H x=some (exO x CC none true)/\
 ∀d,H d=none->d≠x->Q .non (upd (upd (upd H d (xdO d [("one",v1)])) x (exO x CC (some d) true)) d (xdO d [("one",v1),("other",v2)]))
def zet (C CC:Addr):Sp:=λvs H Q E=>∃(a d:Addr) (kvs:QG) (n:Int) (t:Th) (v:V),vs=[.ref a,.int n,v]/\VOk H C a d kvs/\zcX H kvs/\Rep H t v/\Good t/\zj t=n/\
 ((∀t1 v1,valV kvs (.inl n)=some v1->Rep H t1 v1->t1=t)->Q .non H)/\
 (∀t1 v1,valV kvs (.inl n)=some v1->Rep H t1 v1->Good t1->zj t1=zj t->t1≠t->zhL E CC H t1 t v1 v)
def zmD (C CC:Addr):Sp:=λvs H Q E=>∃(a d:Addr) (kvs:QG) (t:Th) (v:V),vs=[.ref a,v]/\VOk H C a d kvs/\zcX H kvs/\kvs.length<=1000000/\Rep H t v/\Good t/\
 (∀H',Same H H'->(∀t1 v1,valV kvs (.inl (zj t))=some v1->Rep H t1 v1->t1=t)->Q (.int (zj t)) (upd H' d (.dK (putK kvs (.inl (zj t)) v))))/\
 (∀t1 v1 H',Same H H'->valV kvs (.inl (zj t))=some v1->Rep H' t1 v1->Good t1->zj t1=zj t->t1≠t->zhL E CC H' t1 t v1 v)
def zi1 (C:Addr):Sp:=λvs H Q _=>∃(a d:Addr) (kvs:QG) (n:Int) (v:V),vs=[.ref a,.int n]/\VOk H C a d kvs/\valV kvs (.inl n)=some v/\Q v H
def zez (C CN:Addr):Sp:=λvs H Q E=>∃(a d:Addr) (kvs:QG) (n:Int),vs=[.ref a,.int n]/\VOk H C a d kvs/\(∀v,valV kvs (.inl n)=some v->Q v H)/\(valV kvs (.inl n)=none->E (.ref CN) none H)
def DRep.laidOk {H:Hp}{cs:QF}{kvs:QG}(r:DRep H cs kvs)(g:∀p∈cs,Good p.2/\zj p.2=p.1):zcX H kvs:=λn v e=>by obtain⟨t,e1,rv⟩:=r.back e;obtain⟨g1,g2⟩:=g _ (zcb e1);exact⟨t,rv,g1,g2⟩
theorem zmz (v1 v2:V):putF ("other" :Str) v2 [(("one" :Str),v1)]=[(("one" :Str),v1),(("other" :Str),v2)]:=by
 unfold putF;rw[if_neg (by decide)]
 rfl
def Rep.uniq {H:Hp}{t u:Th}{v:V}(r:Rep H t v):Rep H u v->t=u:=by
 induction r generalizing u with
 | non=>intro q;cases q;rfl
 | int i=>intro q;cases q;rfl
 | str x=>intro q;cases q;rfl
 | @tup a xs ts e l h ih=>
  intro q;cases q with
  | @tup _ ys us e' l' h'=>
   rw[e] at e';cases e';congr 1;apply List.ext_getElem?;intro i;by_cases hi:i < ts.length
   ·have h1:ts[i]? =some ts[i]:=List.getElem?_eq_getElem hi;have h2:us[i]? =some us[i]:=List.getElem?_eq_getElem (by omega);have h3:xs[i]? =some xs[i]:=List.getElem?_eq_getElem (by omega);rw[h1,h2,ih i _ _ h3 h1 (h' i _ _ h3 h2)]
   ·rw[List.getElem?_eq_none (by omega),List.getElem?_eq_none (by omega)]
section
variable {P:Program}{w:World}{K:QA}{mg:QB}{base:Heap}{C CC:Addr}{x:Str}
def zm2 (D:Mkd K mg x C "Vault.__init__" zaf ["self"]) (c:Cls K C) (nl:zE K C "laid"):Mkr P w K mg base x C 1 ["self"] (zcv C):=by
 refine D.ok (k:=0) zcE (λvs H Q E h=>?_) (λf cdv A outer s H vs Q E hr h=>?_)
 ·obtain⟨a,dx,rfl,_⟩:=h;rfl
 obtain⟨a,dx,rfl,ea,q⟩:=h;refine⟨_,(zd (zeX (pv 0) zc9 (by rfl))),?_⟩;intro d hd;exact⟨_,rfl,a,C,dx,[],rfl,by rw[zk (zm ea hd)];exact ea,c,nl,by decide,q d hd⟩
def zmS (D:XId K mg "Clash" CC "Clash.__init__" za9 ["self","one","other"]) (n1:zE K CC "one") (n2:zE K CC "other"):XI P w K mg base "Clash" CC 1 ["self","one","other"] (zlg CC):=by
 have c:=D.cl;refine D.ok (k:=0) zeW (λvs H Q E h=>?_) (λf cdv A outer s H vs Q E hr h=>?_)
 ·obtain⟨x,v1,v2,rfl,_⟩:=h;rfl
 obtain⟨x,v1,v2,rfl,ex,q⟩:=h;refine⟨_,(zb (zqO (pv 0) (pv 1) (by rfl))
 (zd (zqI (pv 0) (pv 2) (by rfl)))),?_⟩
 refine⟨_,rfl,_,rfl,x,CC,true,rfl,ex,c,n1,λd hd hdx=>?_⟩;refine⟨_,rfl,_,rfl,x,CC,true,d,[("one",v1)],rfl,zg,by rw[zk hdx];exact zg,hdx,c,n2,(show(1:Nat) < 1000 by decide),?_⟩;show Q .non (upd _ d (xdO d (putF "other" v2 [("one",v1)])));rw[zmz];exact q d hd hdx
def ze2 (D:Mdf K C "refuse_clash" "Vault.refuse_clash" zQ ["self","number","thing"]) (zlk:XI P w K mg base "Clash" CC 1 ["self","one","other"] (zlg CC)) (c:Cls K C) (nl:zE K C "laid"):
  Mt P w K mg base (CX1 P w) C "refuse_clash" 3 ["self","number","thing"] (zet C CC):=by
 refine D.okX (k:=2) zdt (λvs H Q E h=>?_) (λf cdv A outer s H vs Q E hr h=>?_)
 ·obtain⟨a,d,kvs,n,t,v,rfl,_⟩:=h;rfl
 obtain⟨a,d,kvs,n,t,v,rfl,vo,lo,rt,gt,sn,q,qe⟩:=h;obtain⟨⟨dx,fs,eo,fl⟩,ed⟩:=vo;refine⟨_,(zd (zN (PW.pt (zgA (zgN (zmx (zbv hr) (pv 1) (zaJ (pv 0) (by rfl)))) (zex (zB (zei hr) (zcu (zbv hr) (zaJ (pv 0) (by rfl)) (pv 1) (λ_ _=>rfl)) (pv 2) (zA _)))))
 (zd (zeA zey rfl (zrw zlk hr (by omega) (by rfl) (za (zcu (zbv hr) (zaJ (pv 0) (by rfl)) (pv 1) (λ_ _=>rfl)) (za (pv 2) zc)))))
 zy)),?_⟩
 refine⟨_,rfl,_,rfl,a,C,dx,_,_,rfl,eo,c,nl,fl.la,d,_,rfl,DGet.k (k:=Sum.inl n) ed,_,rfl,?_⟩;cases ev:valV kvs (Sum.inl n) with
 | none=>exact ifF rfl (ifF rfl (q λt1 v1 e=>by rw[ev] at e;cases e))
 | some v1=>
  obtain⟨t1,r1,g1,s1⟩:=lo n v1 ev;have gd:=g1.dp;have dg:DGet H d (.int n) (some v1):=by rw[<-ev];exact DGet.k (k:=Sum.inl n) ed
  refine ifT rfl ?_;refine⟨_,rfl,a,C,dx,_,_,rfl,eo,c,nl,fl.la,_,rfl,d,v1,rfl,dg,_,rfl,t1,t,r1,rt,by omega,_,rfl,?_⟩;refine ifB (λcc=>?_) (λcc=>?_)
  ·have ne:t1≠t:=λz=>by rw[z,zaO] at cc;cases cc
   refine⟨_,rfl,a,C,dx,_,_,rfl,eo,c,nl,fl.la,_,rfl,d,v1,rfl,dg,_,rfl,szl (show 2<=1000 by decide),λx hx=>?_⟩;refine⟨x,v1,v,rfl,zg,λd' hd' hdx=>⟨rfl,?_⟩⟩;have hd2:H d'=none:=by rw[zk hdx] at hd';exact hd'
   refine⟨x,CC,some d',rfl,by rw[zk (Ne.symm hdx)];exact zg,zlk.cl.q,?_⟩;refine qe t1 v1 ev r1 g1 (s1.trans sn.symm) ne _ d' (λb o hb=>?_) ?_
   ·have b1:b≠x:=zm hb hx;have b2:b≠d':=zm hb hd2;rw[zcj b1,zk b2,zk b1,zk b2,zk b1];exact hb
   ·rw[zcj hdx];exact zg
  ·have eq:t1=t:=(za8 t1 t).mp (by cases z:eqT t1 t with | true=>rfl | false=>rw[z] at cc;cases cc);exact q λt2 v2 e r2=>by rw[ev] at e;cases e;exact(r2.uniq r1).trans eq
def zmA (D:Mdf K C "lay" "Vault.lay" zbE ["self","thing"]) (zgS:Mt P w K mg base (CX1 P w) C "refuse_clash" 3 ["self","number","thing"] (zet C CC)) (zcD:Fn P w K mg base "seal" 13 ["thing"] zeY) (c_K:Cls K C) (nl:zE K C "laid"):
  Mt P w K mg base (CX1 P w) C "lay" 14 ["self","thing"] (zmD C CC):=by
 refine D.okX (k:=13) zfr (λvs H Q E h=>?_) (λf cdv A outer s H vs Q E hr h=>?_)
 ·obtain⟨a,d,kvs,t,v,rfl,_⟩:=h;rfl
 obtain⟨a,d,kvs,t,v,rfl,vo,lo,hl,rt,gt,q,qe⟩:=h;have gd:=gt.dp;have gn:=gt.nd;refine⟨_,(zb (zu (i:=2) zfr.nd rfl (Or.inl rfl) (zK zcD hr (by omega) (by rfl) (za (pv 1) zc)))
 (zb (zax (zbw (pv 0) c_K zgS hr (by omega) zL (za (pv 2) (za (pv 1) zc))))
 (zb (zec (zbv hr) (zaJ (pv 0) (by rfl)) (pv 2) (pv 1) (by rfl))
 (zd (zq (pv 2)))))),?_⟩
 refine⟨_,rfl,t,v,rfl,rt,gt.wf,by omega,by omega,λH1 s1=>?_⟩;have vo1:=vo.keep s1;obtain⟨⟨dx,fs,eo,fl⟩,ed⟩:=id vo1;have rt1:=rt.keep (Same.tups s1);refine⟨_,rfl,a,dx,_,rfl,eo,fl.n1,_,rfl,_,rfl,a,d,kvs,_,t,v,rfl,vo1,lo.keep (Same.tups s1),rt1,gt,rfl,λsame=>?_,λt1 v1 ev r1 g1 sn ne=>qe t1 v1 H1 s1 ev r1 g1 sn ne⟩;refine⟨_,rfl,_,rfl,a,C,dx,_,_,rfl,eo,c_K,nl,fl.la,_,rfl,d,_,rfl,DPut.k (k:=Sum.inl (zj t)) ed (Nat.lt_of_le_of_lt hl (by decide+kernel)),?_⟩;exact⟨_,rfl,q H1 s1 λt1 v1 e r=>same t1 v1 e (r.keep (Same.tups s1))⟩
def zlp (D:Mdf K C "thing" "Vault.thing" zaE ["self","number"]) (c:Cls K C) (nl:zE K C "laid"):Mt P w K mg base CX0 C "thing" 1 ["self","number"] (zi1 C):=by
 refine D.ok (k:=0) zdO (λvs H Q E h=>?_) (λf cdv A outer s H vs Q E hr h=>?_)
 ·obtain⟨a,d,kvs,n,v,rfl,_⟩:=h;rfl
 obtain⟨a,d,kvs,n,v,rfl,⟨⟨dx,fs,eo,fl⟩,ed⟩,ev,q⟩:=h;have dg:DGet H d (.int n) (some v):=by rw[<-ev];exact DGet.k (k:=Sum.inl n) ed
 refine⟨_,(zb (zN (zgN (ze0 (zbv hr) (pv 1) (zaJ (pv 0) (by rfl))))
 (zd zmZ)
 zy)
 (zd (zq (zcu (zbv hr) (zaJ (pv 0) (by rfl)) (pv 1) (λ_ _=>rfl))))),?_⟩
 refine⟨_,rfl,_,rfl,a,C,dx,_,_,rfl,eo,c,nl,fl.la,d,_,rfl,dg,_,rfl,ifF rfl ?_⟩;exact⟨_,rfl,a,C,dx,_,_,rfl,eo,c,nl,fl.la,_,rfl,d,v,rfl,dg,q⟩
def zhp {CN:Addr}(D:Mdf K C "thing" "Vault.thing" zaE ["self","number"]) (zhC:XP K mg "NoPaper" CN) (c:Cls K C) (nl:zE K C "laid"):Mt P w K mg base (CX1 P w) C "thing" 1 ["self","number"] (zez C CN):=by
 refine D.okX (k:=0) zdO (λvs H Q E h=>?_) (λf cdv A outer s H vs Q E hr h=>?_)
 ·obtain⟨a,d,kvs,n,rfl,_⟩:=h;rfl
 obtain⟨a,d,kvs,n,rfl,⟨⟨dx,fs,eo,fl⟩,ed⟩,q,qe⟩:=h;refine⟨_,(zb (zN (zgN (ze0 (zbv hr) (pv 1) (zaJ (pv 0) (by rfl))))
 (zd (zeA zey rfl (zni zhC (by rfl) (za zam zc))))
 zy)
 (zd (zq (zcu (zbv hr) (zaJ (pv 0) (by rfl)) (pv 1) (λ_ _=>rfl))))),?_⟩
 refine⟨_,rfl,_,rfl,a,C,dx,_,_,rfl,eo,c,nl,fl.la,d,_,rfl,DGet.k (k:=Sum.inl n) ed,_,rfl,?_⟩;cases ev:valV kvs (Sum.inl n) with
 | none=>refine ifT rfl ⟨szl (show 1<=1000 by decide),λe he=>⟨e,CN,none,rfl,zg,zhC.cl.q,?_⟩⟩;rw[zh0 he];exact qe ev
 | some v=>
  have dg:DGet H d (.int n) (some v):=by rw[<-ev];exact DGet.k (k:=Sum.inl n) ed
  refine ifF rfl ?_;exact⟨_,rfl,a,C,dx,_,_,rfl,eo,c,nl,fl.la,_,rfl,d,v,rfl,dg,q v ev⟩
end
def addT (cs:QF)(n:Int)(t:Th):List (Int ×Th):=match zf cs n with | none=>cs++ [(n,t)] | some _=>cs
def Fits (cs:QF)(n:Int)(t:Th):Prop:=zf cs n=none\/zf cs n=some t
structure GoodC (cs:QF):Prop where
 nd:(cs.map (·.1)).Nodup
 gd:∀p∈cs,Good p.2/\zj p.2=p.1
theorem zbR {cs:QF}{n:Int}{t:Th}(h:zf cs n=none):addT cs n t=cs++ [(n,t)]:=by unfold addT;rw[h]
theorem zbQ {cs:QF}{n:Int}{t u:Th}(h:zf cs n=some u):addT cs n t=cs:=by unfold addT;rw[h]
def zdn (cs:QF)(n:Int)(t:Th):(addT cs n t).length<=cs.length+1:=by
 cases e:zf cs n with
 | none=>rw[zbR e,List.length_append];exact Jb _
 | some u=>rw[zbQ e];omega
def DRep.add {H:Hp}{cs:QF}{kvs:QG}{n:Int}{t:Th}{v:V}(r:DRep H cs kvs)(h:Rep H t v)(f:Fits cs n t)(nd:(cs.map (·.1)).Nodup):DRep H (addT cs n t) (putK kvs (.inl n) v):=by
 rcases f with f | f
 ·rw[zbR f];exact r.put h f
 ·rw[zbQ f];exact r.again h f nd
def GoodC.add {cs:QF}{n:Int}{t:Th}(g:GoodC cs)(gt:Good t)(sn:zj t=n):GoodC (addT cs n t):=by
 cases e:zf cs n with
 | some u=>rw[zbQ e];exact g
 | none=>
  rw[zbR e];refine⟨?_,λp hp=>?_⟩
  ·rw[List.map_append,List.nodup_append];refine⟨g.nd,by simp,λa ha b hb=>?_⟩;cases Ji.mp hb;exact λz=>zjP e (by have z':a=n:=z;rw[<-z'];exact ha)
  ·rcases List.mem_append.mp hp with h | h
   ·exact g.gd p h
   ·cases Ji.mp h;exact⟨gt,sn⟩
theorem GoodC.nil:GoodC []:=⟨List.nodup_nil,λp h=>by cases h⟩
theorem GoodC.dep {cs:QF}{n:Int}{t:Th}(g:GoodC cs)(e:zf cs n=some t):Good t/\zj t=n:=g.gd _ (zcb e)
theorem zaY {cs:QF}{n m:Int}{t u:Th}(e:zf cs m=some u):zf (addT cs n t) m=some u:=by
 cases z:zf cs n with
 | some y=>rw[zbQ z];exact e
 | none=>rw[zbR z,zaS,e]
theorem zar {cs:QF}{n:Int}{t:Th}(f:Fits cs n t):zf (addT cs n t) n=some t:=by
 rcases f with f | f
 ·rw[zbR f,zaS,f];exact if_pos rfl
 ·rw[zbQ f];exact f
def zaQ {cs:QF}{n m:Int}{t u:Th}(e:zf (addT cs n t) m=some u):zf cs m=some u\/(m=n/\u=t):=by
 cases z:zf cs n with
 | some y=>rw[zbQ z] at e;exact .inl e
 | none=>
  rw[zbR z,zaS] at e;cases y:zf cs m with
  | some w=>rw[y] at e;exact .inl e
  | none=>
   rw[y] at e;by_cases q:n=m
   ·have e':(if n=m then some t else none)=some u:=e;rw[if_pos q] at e';cases e';exact .inr ⟨q.symm,rfl⟩
   ·have e':(if n=m then some t else none)=some u:=e;rw[if_neg q] at e';cases e'
def zlA {a c:Th}(b:Th)(h:zh a c=true):zh a b=true\/zh b c=true:=by rw[<-zbz] at h;rw[<-zbz,<-zbz];exact zkr _ _ _ h
theorem zaB {a b c:Th}(h1:zh a b=true)(h2:zh b c=true):zh a c=true:=by
 rcases zlA c h1 with h | h
 ·exact h
 ·rw[zat h2] at h;cases h
theorem zeE {a b:Th}(h:zh a b=false)(n:a≠b):zh b a=true:=by
 cases e:zh b a with
 | true=>rfl
 | false=>exact Jh (zlz h e) n
def zdf (t:Th):Int:=zj (.tup [.str ("rank" :Str),t])
def zaI (t u:Th):Bool:=if zdf t=zdf u then zh t u else decide (zdf u < zdf t)
abbrev zbS (k wo:Th)(l r c:Int):Th:=.tup [k,wo,.int l,.int r,.int c]
def ziv (t:Th):1<=zj t/\zj t<=2305843009213693951:=by have:=zfk (zO t);unfold zj;omega
structure KeyT (t:Th):Prop where
 wf:Wf t
 dp:dep t<=3
 nd:nodes t<=10
 ne:t≠ .non
instance decTh:DecidableEq Th:=λt u=>decidable_of_iff _ (za8 t u)
inductive Tr where
 | nil:Tr
 | node (l:Tr) (k w:Th) (r:Tr):Tr
namespace Tr
def ps:Tr->List (Th ×Th)
 | nil=>[]
 | node l k w r=>l.ps++(k,w)::r.ps
def root:Tr->Int
 | nil=>0
 | node l k w r=>zj (zbS k w l.root r.root (((l.ps++(k,w)::r.ps).length:Nat):Int))
abbrev cnt (T:Tr):Nat:=T.ps.length
def thing:Tr->Th
 | nil=>.non
 | node l k w r=>zbS k w l.root r.root (((l.ps++(k,w)::r.ps).length:Nat):Int)
def InV (cs:QF):Tr->Prop
 | nil=>True
 | node l k w r=>zf cs (node l k w r).root=some (node l k w r).thing/\l.InV cs/\r.InV cs
def kid (x:Th):Tr->Tr
 | nil=>nil
 | node l k _ r=>if zh k x=true then r else l
def down (x:Th):Nat->Tr->Tr
 | 0,T=>T
 | n+1,T=>down x n (T.kid x)
def plug (x:Th):Nat->Tr->Tr->Tr
 | 0,_,S=>S
 | _+1,nil,_=>nil
 | n+1,node l k w r,S=>if zh k x=true then node l k w (plug x n r S) else node (plug x n l S) k w r
def spl (x:Th):Nat->Tr->Tr ×Tr
 | 0,T=>(T,nil)
 | _+1,nil=>(nil,nil)
 | n+1,node l k w r=>if zh k x=true then(node l k w (spl x n r).1,(spl x n r).2) else((spl x n l).1,node (spl x n l).2 k w r)
def wl (x:Th):Tr->Nat
 | nil=>0
 | node l k _ r=>if k=x then 1 else(if zh k x=true then r.wl x else l.wl x)+1
def own (x:Th):Tr->Tr
 | nil=>nil
 | node l k w r=>if k=x then node l k w r else if zh k x=true then r.own x else l.own x
end Tr
open Tr
theorem zhs (l:Tr)(k w:Th)(r:Tr):(node l k w r).root=zj (node l k w r).thing:=rfl
def zdD {T:Tr}:T.root=0↔T=nil:=by
 cases T with
 | nil=>exact⟨λ_=>rfl,λ_=>rfl⟩
 | node l k w r=>refine⟨λh=>?_,λh=>by cases h⟩;have:=(ziv (node l k w r).thing).1;rw[zhs] at h;omega
noncomputable abbrev _root_.Jx:=@Int.le_refl
def zgq (T:Tr):0<=T.root/\T.root<=2305843009213693951:=by
 cases T with
 | nil=>exact⟨Jx 0,by decide⟩
 | node l k w r=>have:=ziv (node l k w r).thing;rw[zhs];omega
theorem zM (l:Tr)(k w:Th)(r:Tr):(node l k w r).cnt=l.cnt+r.cnt+1:=by show(l.ps++(k,w)::r.ps).length=_;rw[List.length_append,List.length_cons];show l.ps.length+(r.ps.length+1)=l.ps.length+r.ps.length+1;omega
def Sub (cs cs':QF):Prop:=∀n t,zf cs n=some t->zf cs' n=some t
def Sub.refl (cs:QF):Sub cs cs:=λ_ _ h=>h
theorem Sub.trans {a b c:QF}(h:Sub a b)(h':Sub b c):Sub a c:=λn t e=>h' n t (h n t e)
theorem InV.mono {cs cs':QF}(s:Sub cs cs'):∀{T:Tr},T.InV cs->T.InV cs'
 | nil,_=>trivial
 | node _ _ _ _,h=>⟨s _ _ h.1,InV.mono s h.2.1,InV.mono s h.2.2⟩
abbrev _root_.QH:=List (Th ×Th)
def Srt (ps:QH):Prop:=ps.Pairwise λp q=>zh p.1 q.1=true
def zcM {l:Tr}{k w:Th}{r:Tr}(h:Srt (node l k w r).ps):Srt l.ps/\Srt r.ps/\(∀p∈l.ps,zh p.1 k=true)/\(∀p∈r.ps,zh k p.1=true):=by have h':Srt (l.ps++(k,w)::r.ps):=h;obtain⟨h1,h2,h3⟩:=List.pairwise_append.mp h';obtain⟨h4,h5⟩:=List.pairwise_cons.mp h2;exact⟨h1,h5,λp hp=>h3 p hp _ List.mem_cons_self,λp hp=>h4 p hp⟩
def lo (ps:QH)(x:Th):List (Th ×Th):=ps.filter λp=>zh p.1 x
def hi (ps:QH)(x:Th):List (Th ×Th):=ps.filter λp=>zh x p.1
def hiE (ps:QH)(x:Th):List (Th ×Th):=ps.filter λp=>!zh p.1 x
def insP (ps:QH)(x w:Th):List (Th ×Th):=lo ps x++(x,w)::hi ps x
theorem zdB (a b:QH)(x:Th):lo (a++b) x=lo a x++lo b x:=List.filter_append ..
theorem zeM (a b:QH)(x:Th):hi (a++b) x=hi a x++hi b x:=List.filter_append ..
theorem zjo (a b:QH)(x:Th):hiE (a++b) x=hiE a x++hiE b x:=List.filter_append ..
theorem zh7 {a:QH}{x:Th}(h:∀p∈a,zh p.1 x=true):lo a x=a:=List.filter_eq_self.mpr h
theorem zn4 {a:QH}{x:Th}(h:∀p∈a,zh x p.1=true):hi a x=a:=List.filter_eq_self.mpr h
theorem zkm {a:QH}{x:Th}(h:∀p∈a,zh p.1 x=false):hiE a x=a:=List.filter_eq_self.mpr λp hp=>by rw[h p hp];rfl
theorem zfG {a:QH}{x:Th}(h:∀p∈a,zh p.1 x=false):lo a x=[]:=List.filter_eq_nil_iff.mpr λp hp=>by rw[h p hp];exact Jf
theorem zkw {a:QH}{x:Th}(h:∀p∈a,zh x p.1=false):hi a x=[]:=List.filter_eq_nil_iff.mpr λp hp=>by rw[h p hp];exact Jf
theorem ziV {a:QH}{x:Th}(h:∀p∈a,zh p.1 x=true):hiE a x=[]:=List.filter_eq_nil_iff.mpr λp hp=>by rw[h p hp];exact Jf
theorem zrr {p:Th ×Th}{a:QH}{x:Th}(h:zh p.1 x=true):lo (p::a) x=p::lo a x:=List.filter_cons_of_pos h
theorem zod {p:Th ×Th}{a:QH}{x:Th}(h:zh p.1 x=false):lo (p::a) x=lo a x:=List.filter_cons_of_neg (by rw[h];exact Jf)
theorem zrt {p:Th ×Th}{a:QH}{x:Th}(h:zh x p.1=false):hi (p::a) x=hi a x:=List.filter_cons_of_neg (by rw[h];exact Jf)
theorem znP {p:Th ×Th}{a:QH}{x:Th}(h:zh p.1 x=false):hiE (p::a) x=p::hiE a x:=List.filter_cons_of_pos (by rw[h];rfl)
theorem zqH {p:Th ×Th}{a:QH}{x:Th}(h:zh p.1 x=true):hiE (p::a) x=hiE a x:=List.filter_cons_of_neg (by rw[h];exact Jf)
theorem zk3 {A M B:QH}{x w:Th}(hA:∀p∈A,zh p.1 x=true)(hB:∀p∈B,zh x p.1=true):insP (A++M++B) x w=A++insP M x w++B:=by unfold insP;rw[zdB,zdB,zeM,zeM,zh7 hA,zn4 hB,zkw (a:=A) λp hp=>zat (hA p hp),zfG (a:=B) λp hp=>zat (hB p hp)];simp
theorem zlB {l r:QH}{k w w':Th}(hl:∀p∈l,zh p.1 k=true)(hr:∀p∈r,zh k p.1=true):insP (l++(k,w)::r) k w'=l++(k,w')::r:=by unfold insP;rw[zdB,zeM,zh7 hl,zod (zae k),zrt (zae k),zn4 hr,zfG (a:=r) λp hp=>zat (hr p hp),zkw (a:=l) λp hp=>zat (hl p hp)];simp
theorem zqz {a:QH}{x:Th}(h:∀p∈a,p.1≠x):hi a x=hiE a x:=by
 unfold hi hiE;refine List.filter_congr λp hp=>?_;cases e:zh p.1 x with
 | true=>rw[zat e];rfl
 | false=>rw[zeE e (h p hp)];rfl
def Up (x:Th):Nat->Tr->Prop
 | 0,_=>True
 | _+1,nil=>False
 | n+1,node l k _ r=>k≠x/\Up x n (if zh k x=true then r else l)
theorem zdb {x:Th}:∀{n:Nat} {T:Tr},Srt T.ps->Up x n T->∃A B:List (Th ×Th),(∀S,(plug x n T S).ps=A++S.ps++B)/\T.ps=A++(down x n T).ps++B/\(∀p∈A,zh p.1 x=true)/\(∀p∈B,zh x p.1=true)
 | 0,T,_,_=>⟨[],[],λS=>(List.append_nil _).symm,(List.append_nil _).symm,λp h=>(nomatch h),λp h=>(nomatch h)⟩
 | n+1,nil,_,h=>h.elim
 | n+1,node l k w r,hs,h=>by
  obtain⟨h1,h2,h3,h4⟩:=zcM hs;obtain⟨ne,h⟩:=h;by_cases c:zh k x=true
  ·rw[if_pos c] at h;obtain⟨A,B,e1,e2,e3,e4⟩:=zdb h2 h;refine⟨l.ps++(k,w)::A,B,λS=>?_,?_,λp hp=>?_,e4⟩
   ·show(if zh k x=true then node l k w (plug x n r S) else node (plug x n l S) k w r).ps=_;rw[if_pos c];show l.ps++(k,w)::(plug x n r S).ps=_;rw[e1 S];simp
   ·show l.ps++(k,w)::r.ps=(l.ps++(k,w)::A)++(down x n (if zh k x=true then r else l)).ps++B;rw[if_pos c,e2];simp
   ·rcases List.mem_append.mp hp with hp | hp
    ·exact zaB (h3 p hp) c
    ·rcases List.mem_cons.mp hp with rfl | hp
     ·exact c
     ·exact e3 p hp
  ·rw[if_neg c] at h;have c':zh k x=false:=by cases z:zh k x with | true=>exact Jh z c | false=>rfl
   have xk:=zeE c' ne;obtain⟨A,B,e1,e2,e3,e4⟩:=zdb h1 h;refine⟨A,B++(k,w)::r.ps,λS=>?_,?_,e3,λp hp=>?_⟩
   ·show(if zh k x=true then node l k w (plug x n r S) else node (plug x n l S) k w r).ps=_;rw[if_neg c];show(plug x n l S).ps++(k,w)::r.ps=_;rw[e1 S];simp
   ·show l.ps++(k,w)::r.ps=A++(down x n (if zh k x=true then r else l)).ps++(B++(k,w)::r.ps);rw[if_neg c,e2];simp
   ·rcases List.mem_append.mp hp with hp | hp
    ·exact e4 p hp
    ·rcases List.mem_cons.mp hp with rfl | hp
     ·exact xk
     ·exact zaB xk (h4 p hp)
noncomputable abbrev _root_.JA:=@Nat.succ_lt_succ
theorem zgu {x:Th}:∀{n:Nat} {T S:Tr},(∀m,m < n->down x m T≠nil)->(plug x n T S).cnt+(down x n T).cnt=T.cnt+S.cnt
 | 0,T,S,_=>Nat.add_comm _ _
 | n+1,nil,S,h=>Jh rfl (h 0 (Nat.zero_lt_succ _))
 | n+1,node l k w r,S,h=>by
  show(if zh k x=true then node l k w (plug x n r S) else node (plug x n l S) k w r).cnt+(down x n (if zh k x=true then r else l)).cnt=_;have h':∀m,m < n->down x m (if zh k x=true then r else l)≠nil:=λm hm=>h (m+1) (JA hm);by_cases c:zh k x=true
  ·rw[if_pos c] at h' ⊢;rw[if_pos c];have:=zgu (S:=S) h';rw[zM,zM];omega
  ·rw[if_neg c] at h' ⊢;rw[if_neg c];have:=zgu (S:=S) h';rw[zM,zM];omega
theorem up_down {x:Th}:∀{n:Nat} {T:Tr},Up x n T->∀m,m < n->down x m T≠nil
 | 0,_,_,m,hm=>Jh hm (Nat.not_lt_zero m)
 | n+1,nil,h,_,_=>h.elim
 | n+1,node l k w r,h,0,_=>λz=>by cases z
 | n+1,node l k w r,h,m+1,hm=>up_down (T:=if zh k x=true then r else l) h.2 m (Nat.lt_of_succ_lt_succ hm)
theorem zgn {x:Th}:∀(n m:Nat) (T:Tr),down x (n+m) T=down x m (down x n T)
 | 0,m,T=>by rw[Nat.zero_add];rfl
 | n+1,m,T=>by rw[Nat.succ_add];exact zgn n m (T.kid x)
theorem zhY {x:Th}:∀{n m:Nat} {T:Tr},Up x n T->m<=n->Up x m T
 | _,0,_,_,_=>trivial
 | 0,m+1,_,_,h=>Jh h (Nat.not_succ_le_zero m)
 | n+1,m+1,nil,h,_=>h.elim
 | n+1,m+1,node l k w r,h,hm=>⟨h.1,zhY h.2 (Nat.le_of_succ_le_succ hm)⟩
theorem zed {x:Th}:∀{T:Tr},own x T=nil->Up x (wl x T) T/\down x (wl x T) T=nil
 | nil,_=>⟨trivial,rfl⟩
 | node l k w r,h=>by
  unfold own at h;by_cases e:k=x
  ·rw[if_pos e] at h;cases h
  ·rw[if_neg e] at h;unfold wl;rw[if_neg e];by_cases c:zh k x=true
   ·rw[if_pos c] at h ⊢;obtain⟨a,b⟩:=zed h;refine⟨⟨e,?_⟩,?_⟩
    ·rw[if_pos c];exact a
    ·show down x _ (if zh k x=true then r else l)=nil;rw[if_pos c];exact b
   ·rw[if_neg c] at h ⊢;obtain⟨a,b⟩:=zed h;refine⟨⟨e,?_⟩,?_⟩
    ·rw[if_neg c];exact a
    ·show down x _ (if zh k x=true then r else l)=nil;rw[if_neg c];exact b
theorem zcP {x:Th}:∀{T l' r':Tr} {k' w':Th},own x T=node l' k' w' r'->k'=x/\∃n,wl x T=n+1/\Up x n T/\down x n T=node l' k' w' r'
 | nil,_,_,_,_,h=>by cases h
 | node l k w r,l',r',k',w',h=>by
  unfold own at h;by_cases e:k=x
  ·rw[if_pos e] at h;cases h;unfold wl;rw[if_pos e];exact⟨e,0,rfl,trivial,rfl⟩
  ·rw[if_neg e] at h;unfold wl;rw[if_neg e];by_cases c:zh k x=true
   ·rw[if_pos c] at h ⊢;obtain⟨a,n,b,d,f⟩:=zcP h;refine⟨a,n+1,by rw[b],⟨e,?_⟩,?_⟩
    ·rw[if_pos c];exact d
    ·show down x n (if zh k x=true then r else l)=_;rw[if_pos c];exact f
   ·rw[if_neg c] at h ⊢;obtain⟨a,n,b,d,f⟩:=zcP h;refine⟨a,n+1,by rw[b],⟨e,?_⟩,?_⟩
    ·rw[if_neg c];exact d
    ·show down x n (if zh k x=true then r else l)=_;rw[if_neg c];exact f
def zoR {x:Th}{T:Tr}:∀{n:Nat},Up x n T->wl x T=n+wl x (down x n T):=by
 intro n
 induction n generalizing T with
 | zero=>intro _;rw[Nat.zero_add];rfl
 | succ n ih=>
  intro h;cases T with
  | nil=>exact h.elim
  | node l k w r=>
   obtain⟨e,h⟩:=h;have:=ih h;show(if k=x then 1 else(if zh k x=true then r.wl x else l.wl x)+1)=n+1+wl x (down x n (if zh k x=true then r else l));rw[if_neg e];by_cases c:zh k x=true
   ·rw[if_pos c] at this ⊢;rw[if_pos c];omega
   ·rw[if_neg c] at this ⊢;rw[if_neg c];omega
theorem zkB {x:Th}:∀T:Tr,wl x T<=T.cnt
 | nil=>Jb _
 | node l k w r=>by
  rw[zM];unfold wl;have h1:=zkB (x:=x) l;have h2:=zkB (x:=x) r;split
  ·omega
  ·split <;> omega
theorem zdq {x:Th}:∀{n:Nat} {T:Tr},Srt T.ps->Srt (down x n T).ps
 | 0,_,h=>h
 | n+1,T,h=>zdq (n:=n) (T:=T.kid x) (by
  cases T with
  | nil=>exact List.Pairwise.nil
  | node l k w r=>
   obtain⟨h1,h2,_,_⟩:=zcM h;show Srt (if zh k x=true then r else l).ps;split
   ·exact h2
   ·exact h1)
theorem zjQ {x:Th}:∀{T:Tr},Srt T.ps->(spl x (wl x T) T).1.ps=lo T.ps x/\(spl x (wl x T) T).2.ps=hiE T.ps x
 | nil,_=>⟨rfl,rfl⟩
 | node l k w r,h=>by
  obtain⟨h1,h2,h3,h4⟩:=zcM h;show(spl x (if k=x then 1 else(if zh k x=true then r.wl x else l.wl x)+1) (node l k w r)).1.ps=lo (l.ps++(k,w)::r.ps) x/\(spl x (if k=x then 1 else(if zh k x=true then r.wl x else l.wl x)+1) (node l k w r)).2.ps=hiE (l.ps++(k,w)::r.ps) x;rw[zdB,zjo];by_cases e:k=x
  ·subst e;rw[if_pos rfl];have c:=zae k;show(if zh k k=true then(node l k w r,nil) else(l,node nil k w r)).1.ps=_/\(if zh k k=true then(node l k w r,nil) else(l,node nil k w r)).2.ps=_;rw[c,zh7 h3,zod c,znP c,zfG λp hp=>zat (h4 p hp),ziV h3,zkm λp hp=>zat (h4 p hp)];exact⟨(List.append_nil _).symm,rfl⟩
  ·rw[if_neg e];by_cases c:zh k x=true
   ·obtain⟨i1,i2⟩:=zjQ (x:=x) h2;rw[if_pos c];show(if zh k x=true then(node l k w (spl x (r.wl x) r).1,(spl x (r.wl x) r).2) else _).1.ps=_/\(if zh k x=true then(node l k w (spl x (r.wl x) r).1,(spl x (r.wl x) r).2) else _).2.ps=_;rw[if_pos c,zh7 λp hp=>zaB (h3 p hp) c,zrr c,ziV λp hp=>zaB (h3 p hp) c,zqH c];refine⟨?_,by rw[List.nil_append];exact i2⟩;show l.ps++(k,w)::(spl x (r.wl x) r).1.ps=_;rw[i1]
   ·have c':zh k x=false:=by cases z:zh k x with | true=>exact Jh z c | false=>rfl
    have xk:=zeE c' e;obtain⟨i1,i2⟩:=zjQ (x:=x) h1;rw[if_neg c];show(if zh k x=true then _ else((spl x (l.wl x) l).1,node (spl x (l.wl x) l).2 k w r)).1.ps=_/\(if zh k x=true then _ else((spl x (l.wl x) l).1,node (spl x (l.wl x) l).2 k w r)).2.ps=_;have hr:∀p∈r.ps,zh p.1 x=false:=λp hp=>zat (zaB xk (h4 p hp));rw[if_neg c,zod c',znP c',zfG hr,zkm hr];refine⟨by rw[List.append_nil];exact i1,?_⟩;show(spl x (l.wl x) l).2.ps++(k,w)::r.ps=_;rw[i2]
def Tr.plc (x:Th):Tr->Nat
 | nil=>0
 | node l k _ r=>if zaI x k=true then 0 else(if zh k x=true then r.plc x else l.plc x)+1
theorem zhV {x:Th}:∀{T:Tr},own x T=nil->plc x T<=wl x T
 | nil,_=>Jb _
 | node l k w r,h=>by
  unfold own at h;by_cases e:k=x
  ·rw[if_pos e] at h;cases h
  ·rw[if_neg e] at h;unfold plc wl;rw[if_neg e];split
   ·exact Nat.zero_le _
   ·by_cases c:zh k x=true
    ·rw[if_pos c] at h;rw[if_pos c,if_pos c];exact Nat.succ_le_succ (zhV h)
    ·rw[if_neg c] at h;rw[if_neg c,if_neg c];exact Nat.succ_le_succ (zhV h)
theorem zoh {x:Th}:∀{n:Nat} {T:Tr},Up x n T->own x (down x n T)=own x T
 | 0,_,_=>rfl
 | n+1,nil,h=>h.elim
 | n+1,node l k w r,h=>by
  show own x (down x n (if zh k x=true then r else l))=own x (node l k w r);rw[zoh h.2]
  conv=>rhs;unfold own
  rw[if_neg h.1];split <;> rfl
theorem zfL {x:Th}:∀{T:Tr},Srt T.ps->own x T=nil->∀p∈T.ps,p.1≠x
 | nil,_,_,p,hp=>by cases hp
 | node l k w r,hs,h,p,hp=>by
  obtain⟨h1,h2,h3,h4⟩:=zcM hs;unfold own at h;by_cases e:k=x
  ·rw[if_pos e] at h;cases h
  ·rw[if_neg e] at h;by_cases c:zh k x=true
   ·rw[if_pos c] at h;rcases List.mem_append.mp hp with hp | hp
    ·intro z;have:=zaB (h3 p hp) c;rw[z,zae] at this;cases this
    ·rcases List.mem_cons.mp hp with rfl | hp
     ·exact e
     ·exact zfL h2 h p hp
   ·rw[if_neg c] at h;have c':zh k x=false:=by cases z:zh k x with | true=>exact Jh z c | false=>rfl
    have xk:=zeE c' e;rcases List.mem_append.mp hp with hp | hp
    ·exact zfL h1 h p hp
    ·rcases List.mem_cons.mp hp with rfl | hp
     ·exact e
     ·intro z;have:=zaB xk (h4 p hp);rw[z,zae] at this;cases this
def Tr.putT (x w:Th)(T:Tr):Tr:=
 match own x T with
 | node l _ _ r=>plug x (wl x T - 1) T (node l x w r)
 | nil=>plug x (plc x T) T (node (spl x (wl x T - plc x T) (down x (plc x T) T)).1 x w (spl x (wl x T - plc x T) (down x (plc x T) T)).2)
def zqa {x w:Th}{T:Tr}(hs:Srt T.ps):(putT x w T).ps=insP T.ps x w:=by
 unfold putT;cases h:own x T with
 | nil=>
  obtain⟨u,d⟩:=zed h;have hp:=zhV h;have u':=zhY u hp;obtain⟨A,B,e1,e2,e3,e4⟩:=zdb hs u';have hd:=zoR u';have ew:wl x T - plc x T=wl x (down x (plc x T) T):=by omega
  have s1:=zjQ (x:=x) (zdq (x:=x) (n:=plc x T) hs);show(plug x (plc x T) T (node (spl x (wl x T - plc x T) (down x (plc x T) T)).1 x w (spl x (wl x T - plc x T) (down x (plc x T) T)).2)).ps=_;rw[ew,e1]
  conv=>rhs;rw[e2]
  rw[zk3 e3 e4];show A++((spl x (wl x (down x (plc x T) T)) (down x (plc x T) T)).1.ps++(x,w)::(spl x (wl x (down x (plc x T) T)) (down x (plc x T) T)).2.ps)++B=_;rw[s1.1,s1.2];unfold insP;rw[zqz (zfL (zdq hs) (by rw[zoh u',h]))]
 | node l k' w' r=>
  obtain⟨rfl,n,ew,u,d⟩:=zcP h;show(plug k' (wl k' T - 1) T (node l k' w r)).ps=_;rw[ew,Nat.add_sub_cancel];obtain⟨A,B,e1,e2,e3,e4⟩:=zdb hs u;rw[e1]
  conv=>rhs;rw[e2]
  rw[zk3 e3 e4,d];obtain⟨_,_,h3,h4⟩:=zcM (d ▸ zdq hs);show A++(l.ps++(k',w)::r.ps)++B=A++insP (l.ps++(k',w')::r.ps) k' w++B;rw[zlB h3 h4]
def zf9 {ps:QH}(h:Srt ps)(f:Th ×Th->Bool):Srt (ps.filter f):=List.Pairwise.filter f h
def zo6 {ps:QH}{x w:Th}(h:Srt ps):Srt (insP ps x w):=by
 refine List.pairwise_append.mpr ⟨zf9 h _,List.pairwise_cons.mpr ⟨λp hp=>(Jz.mp hp).2,zf9 h _⟩,λp hp q hq=>?_⟩;have a:=(Jz.mp hp).2;rcases List.mem_cons.mp hq with rfl | hq
 ·exact a
 ·exact zaB a (Jz.mp hq).2
def zpv {ps:QH}{x w:Th}:(insP ps x w).length<=ps.length+1:=by
 unfold insP lo hi;rw[List.length_append,List.length_cons];have:∀qs:List (Th ×Th),(qs.filter λp=>zh p.1 x).length+(qs.filter λp=>zh x p.1).length<=qs.length:=λqs=>by
  induction qs with
  | nil=>exact Jb _
  | cons q qs ih=>
   rw[List.filter_cons,List.filter_cons];cases a:zh q.1 x with
   | true=>rw[zat a];show(q::qs.filter _).length+(qs.filter _).length<=_;rw[List.length_cons,List.length_cons];omega
   | false=>
    show(qs.filter _).length+(if zh x q.1=true then q::qs.filter _ else qs.filter _).length<=_;split
    ·rw[List.length_cons,List.length_cons];omega
    ·rw[List.length_cons];omega
 have:=this ps;omega
def zpa {ps:QH}{x w:Th}{p:Th ×Th}(h:p∈insP ps x w):p∈ps\/p=(x,w):=by
 rcases List.mem_append.mp h with h | h
 ·exact .inl (Jz.mp h).1
 ·rcases List.mem_cons.mp h with h | h
  ·exact .inr h
  ·exact .inl (Jz.mp h).1
end Pv
namespace L2
open PySem PySem.Spec PyProof.Rows
structure PEw (X:Cx)(e:Expr)(t:TE):Prop where
 h:PE X e t
structure PAw (X:Cx)(es:List Expr)(t:TA):Prop where
 h:PA X es t
structure PPw (X:Cx)(pos:Pos)(keys:List (Option Expr))(values:List Expr)(trs:List (TE ×TE)):Prop where
 h:PPs X pos keys values trs
structure PSw (X:Cx)(st:Stmt)(t:TS):Prop where
 h:PS X st t
structure PSq (X:Cx)(st:List Stmt)(t:TS):Prop where
 h:PSs X st t
section
variable {X:Cx}
end
section
variable {X:Cx}{pins:QE}{σ:St}{H:Hp}{s:Shared}{d:Addr}{kvs:QG}{o:Obj}
end
section
variable {X:Cx}{tg:Expr}
end
end L2
namespace L2
open PySem PySem.Spec PyProof.Rows PySem.W
section
variable {P:Program}{w:World}{A:Around}{E:QC}{s:Shared}{R:Result->Shared->Prop}{I l S:Addr}{items:Array Value}
end
section
variable {P:Program}{w:World}{A:Around}{E:QC}{s:Shared}{I l:Addr}{items:Array Value}
end
section
variable {X:Cx}{e:Expr}{te:TE}{p1 p2 q1 q2:Pos}
end
def Itv (K:QA)(p:Addr)(xs:QQ):It:=
 ⟨λn H=>SqL K H p xs/\n < xs.length,λn H v H'=>H'=H/\xs.reverse[n]? =some v,λn H=>SqL K H p xs/\xs.length<=n⟩
def zmt {P:Program}{w:World}{K:QA}{tg:Expr}{xs:QQ}(p it:Addr):Turn P w K tg (Itv K p xs) [it] it (λi h=>i<=xs.length/\h.IsRevIter it p ((xs.length:Int) - 1 - (i:Nat))) where
 mem:=by simp
 obj:=λi h st b hb=>by
  have e:b=it:=by simpa using hb
  subst e;obtain⟨_,o,e,c,d⟩:=st;exact⟨o,e,λv z=>by rw[d] at z;cases z⟩
 keep:=λi h h' st k=>⟨st.1,st.2.at λo e=>k it (by simp) o e⟩
 item:=by
  intro X hP hw hK hc i pins s σ H E I hf st hg;subst hP hw hK;obtain⟨hq,hi⟩:=hg;obtain⟨_,st⟩:=st;obtain⟨its,rv,p',hz⟩:=I.list hq;have hn:xs.length - 1 - i < xs.length:=by omega
  have hx:xs[xs.length - 1 - i]? =some xs[xs.length - 1 - i]:=List.getElem?_eq_getElem hn;obtain⟨u,hu,ru⟩:=rv.get hx;obtain⟨f0,f1,f2,f3,f4,f5⟩:=hf it (by simp);have en:(xs.length:Int) - 1 - (i:Nat)=((xs.length - 1 - i:Nat):Int):=by omega
  rw[en] at st;refine wpAny_pyNext_rev_item st p'.isList (x:=u) (by simpa using hu) λh' st' sb=>?_;have I1:Inv X pins σ H {s with heap:=h'}:=I.turned (t':=s.toks) (λb o hb e=>(sb.2 b hb).trans e) f0 f1 f3 f4 f5;obtain⟨o,e,c,d⟩:=id st';have en2:((xs.length - 1 - i:Nat):Int) - 1=(xs.length:Int) - 1 - ((i+1:Nat):Int):=by omega
  rw[en2] at st';exact⟨u,rfl,zho (s:={s with heap:=h'}) e c d (by decide) ⟨_,H,I1,ru,⟨rfl,by rw[List.getElem?_reverse hi];exact hx⟩,⟨hi,st'⟩,λb hb=>(hf b hb).1⟩⟩
 done:=by
  intro X hP hw hK hc i pins s σ H E I hf st hg;subst hP hw hK;obtain⟨hq,hx⟩:=hg;obtain⟨hi,st⟩:=st;obtain⟨f0,f1,f2,f3,f4,f5⟩:=hf it (by simp);have en:(xs.length:Int) - 1 - (i:Nat)= -1:=by omega
  rw[en] at st;exact wpAny_pyNext_rev_end (I.ok.hd hc) st λh' eb=>⟨rfl,I.turned (t':=s.toks) (λb o hb e=>eb b o hb e) f0 f1 f3 f4 f5⟩
 self:=λ_ _ _ _ _ st h=>wpAny_pyIter_revIter st.2 h
section
variable {X:Cx}
def iRev (K:QA)(te:TE):TI:=fun σ H R=>te σ H λx H1=>∃(p:Addr) (xs:QQ),x=.ref p/\SqL K H1 p xs/\R (Itv K p xs) H1
def zjS {tg a:Expr}{te:TE}{p pos:Pos}(hg:Gl X "reversed") (hm:X.mg "reversed" =none) (he:PE X a te) (hs:starEach [a] X.env=[(false,eval a X.env)]:=by rfl):
  PI X tg (.Call (.Name "reversed" p) [a] [] pos) (iRev X.K te):=by
 intro pins s σ H R I h;refine wpAny_Call_Name_kw (zda I hg hm (show bootBuiltins "reversed" =some (.type "reversed") from by rfl) ?_ (by decide) (by decide));refine PyProof.Rows.callWith_type1 ?_ hs rfl;rw[hs];show wpAny _ _ (spliced ((false,eval a X.env)::[])) _ _ s;refine Calls.spliced_cons (thn (he pins s σ H _ I h) λu t1 ⟨x,H1,I1,r1,p,ys,ex,hq,q⟩=>Calls.spliced_nil ?_);subst ex;cases (show u=Value.ref p from r1);obtain⟨its,rv,pl,hz⟩:=I1.list hq;have hlen:=rv.length;refine call_reversed_list pl.isList ?_;have hri:(t1.heap.push (revObj p ((its.toArray.size:Int) - 1))).IsRevIter t1.heap.objs.size p ((ys.length:Int) - 1 - ((0:Nat):Int)):=⟨_,Heap.get?_push_size _ rfl,rfl,by rw[List.size_toArray,<-hlen];simp[revObj]⟩;refine wpAny_pyIter_revIter (s:={t1 with heap:=t1.heap.push (revObj p ((its.toArray.size:Int) - 1))}) hri ?_;refine⟨t1.heap.objs.size,[t1.heap.objs.size],_,_,H1,rfl,I1.kept (t':=t1.toks) λb o e=>Heap.get?_push_of_some _ e,zmt p _,⟨Nat.zero_le _,hri⟩,λb hb=>?_,q⟩;have e:b=t1.heap.objs.size:=by simpa using hb
 subst e;exact I1.fpOk (Jb _) (I1.hok.fresh (Jb _))
def zib {K:QA}{p:Addr}{xs:QQ}{g:TG}{tb:TS}{D:Ends}{σ:St}{H:Hp}(Pv:Nat->St->Hp->Prop)(h0:Pv 0 σ H)(hl:∀i σ H,Pv i σ H->SqL K H p xs)
  (hs:∀i x σ H,i < xs.length->xs.reverse[i]? =some x->Pv i σ H->g x σ H fun σ2 H2=>tb {D with nx:=Pv (i+1),ct:=Pv (i+1),bk:=D.nx} σ2 H2) (hd:∀σ H,Pv xs.length σ H->D.nx σ H):
  ∃W:Nat->Nat->St->Hp->Prop,(∃m,W 0 m σ H)/\∀i m σ H,W i m σ H->
   ((Itv K p xs).stop i H/\D.nx σ H)\/((Itv K p xs).go i H/\∃N:St->Hp->Prop,(∀σ' H',N σ' H'->∃m',m' < m/\W (i+1) m' σ' H')/\∀x H',(Itv K p xs).yld i H x H'->g x σ H' fun σ2 H2=>tb {D with nx:=N,ct:=N,bk:=D.nx} σ2 H2):=by
 refine⟨λi m σ H=>m=xs.length - i/\i<=xs.length/\Pv i σ H,⟨_,rfl,Nat.zero_le _,h0⟩,?_⟩;rintro i m σ H ⟨rfl,hi,p⟩;have q:=hl i σ H p;by_cases hlt:i < xs.length
 ·refine .inr ⟨⟨q,hlt⟩,Pv (i+1),fun σ' H' p'=>⟨_,by omega,rfl,hlt,p'⟩,λx H' y=>?_⟩;obtain⟨rfl,e1⟩:=y;exact hs i x σ _ hlt e1 p
 ·have e:i=xs.length:=by omega
  subst e;exact .inl ⟨⟨q,Jb _⟩,hd σ H p⟩
end
end L2
namespace Pv
open PySem L2
abbrev zdH:Stmt:=top 14
def zfX:zr ["value"] ["value"] (ze zdH):=L2.fsc (by decide+kernel)
abbrev zf3:Stmt:=top 45
def zl4:zr ["thing"] ["thing"] (ze zf3):=L2.fsc (by decide+kernel)
abbrev zf5:Stmt:=top 44
def zls:zr ["thing"] ["thing"] (ze zf5):=L2.fsc (by decide+kernel)
abbrev zbI:Stmt:=top 43
def zdk:zr ["vault","root","count","node"] ["vault","root","count"] (ze zbI):=L2.fsc (by decide+kernel)
abbrev znQ:Stmt:=top 46
def zqd:zr ["key"] ["key"] (ze znQ):=L2.fsc (by decide+kernel)
abbrev zjC:Stmt:=top 47
def zij:zr ["key","other","mine","its"] ["key","other"] (ze zjC):=L2.fsc (by decide+kernel)
open Tr
def Mt.imp {P:Program}{w:World}{K:QA}{mg:QB}{base:Heap}{CX:CXT}{C:Addr}{m:Str}{k:Nat}{ps:QP}{sp sp':Sp}(F:Mt P w K mg base CX C m k ps sp)(h:∀vs H Q E,sp' vs H Q E->sp vs H Q E):Mt P w K mg base CX C m k ps sp':=by obtain⟨f,fd,a,b⟩:=F.ex;exact⟨f,fd,a.imp h,b⟩
structure VS (H:Hp)(C a d:Addr)(cs:QF):Prop where
 vo:∃kv,VOk H C a d kv/\DRep H cs kv
 gc:GoodC cs
theorem VS.same {H H':Hp}{C a d:Addr}{cs:QF}(v:VS H C a d cs)(s:Same H H'):VS H' C a d cs:=by obtain⟨kv,vo,dr⟩:=v.vo;exact⟨⟨kv,vo.keep s,dr.keep (Same.tups s)⟩,v.gc⟩
def Fr1 (d:Addr)(H H':Hp):Prop:=∀b o,b≠d->H b=some o->H' b=some o
def Fr1.refl (d:Addr)(H:Hp):Fr1 d H H:=λ_ _ _ e=>e
theorem Fr1.trans {d:Addr}{H H' H'':Hp}(f:Fr1 d H H')(g:Fr1 d H' H''):Fr1 d H H'':=λb o n e=>g b o n (f b o n e)
theorem VS.ne {H:Hp}{C a d:Addr}{cs:QF}{b:Addr}{o:HO}(v:VS H C a d cs)(e:H b=some o)(h:∀kv,o≠ .dK kv):b≠d:=by obtain⟨kv,vo,_⟩:=v.vo;intro z;rw[z,vo.di] at e;cases e;exact h kv rfl
theorem VS.tups {H H':Hp}{C a d:Addr}{cs:QF}(v:VS H C a d cs)(f:Fr1 d H H'):Tups H H':=λb xs e=>f b _ (v.ne e (by intro kv z;cases z)) e
theorem VS.lst {H H':Hp}{C a d:Addr}{cs:QF}{b:Addr}{xs:QQ}(v:VS H C a d cs)(f:Fr1 d H H')(e:H b=some (.lst xs)):H' b=some (.lst xs):=f b _ (v.ne e (by intro kv z;cases z)) e
def Cl (CC:Addr)(E:XK):Prop:=∀(t1 t2:Th) (v1 v2:V) (H:Hp) (x:Addr),Rep H t1 v1->Rep H t2 v2->Good t1->Good t2->t1≠t2->zj t1=zj t2->H x=some (xdO x [("one",v1),("other",v2)])->E (.ref CC) (some x) H
def zoS {cs:QF}{n:Int}{t:Th}:Sub cs (addT cs n t):=λ_ _ e=>zaY e
structure NodeOk (k wo:Th)(l r c:Int):Prop where
 k0:k≠ .non
 w0:wo≠ .non
 l0:0<=l
 r0:0<=r
 c1:1<=c
 c2:c<=300
def zkj:Sp:=λvs H Q _=>(∃i:Int,vs=[.int i]/\Q (.bl true) H)\/(vs=[.non]/\Q (.bl false) H)
structure TOk (cs:QF)(T:Tr):Prop where
 iv:T.InV cs
 ky:∀p∈T.ps,KeyT p.1/\KeyT p.2
 ct:T.cnt<=300
def TOk.mono {cs cs':QF}{T:Tr}(t:TOk cs T)(s:Sub cs cs'):TOk cs' T:=⟨InV.mono s t.iv,t.ky,t.ct⟩
theorem TOk.nil {cs:QF}:TOk cs Tr.nil:=⟨trivial,λp h=>(nomatch h),Nat.zero_le _⟩
theorem TOk.l {cs:QF}{l r:Tr}{k w:Th}(t:TOk cs (node l k w r)):TOk cs l:=⟨t.iv.2.1,λp h=>t.ky p (Jq _ h),by have:=t.ct;rw[zM] at this;omega⟩
theorem TOk.r {cs:QF}{l r:Tr}{k w:Th}(t:TOk cs (node l k w r)):TOk cs r:=⟨t.iv.2.2,λp h=>t.ky p (Jj _ (Jn _ h)),by have:=t.ct;rw[zM] at this;omega⟩
theorem TOk.kw {cs:QF}{l r:Tr}{k w:Th}(t:TOk cs (node l k w r)):KeyT k/\KeyT w:=t.ky (k,w) (Jj _ List.mem_cons_self)
def TOk.kid {cs:QF}{T:Tr}{x:Th}(t:TOk cs T):TOk cs (T.kid x):=by
 cases T with
 | nil=>exact .nil
 | node l k w r=>
  show TOk cs (if zh k x=true then r else l);split
  ·exact t.r
  ·exact t.l
theorem TOk.down {cs:QF}{x:Th}:∀{n:Nat} {T:Tr},TOk cs T->TOk cs (down x n T)
 | 0,_,t=>t
 | n+1,_,t=>TOk.down (n:=n) t.kid
def KeyT.good {t:Th}(k:KeyT t):Good t:=⟨k.wf,Jk k.dp (by decide),Jk k.nd (by decide)⟩
def zlK {k wo:Th}{l r c:Int}(hk:KeyT k)(hw:KeyT wo)(l0:0<=l)(l1:l<=10 ^ 30)(r0:0<=r)(r1:r<=10 ^ 30)(c0:1<=c)(c1:c<=300):NodeOk k wo l r c/\Good (zbS k wo l r c):=by
 refine⟨⟨hk.ne,hw.ne,l0,r0,c0,c1⟩,⟨⟨by show(5:Nat)<=40;decide,hk.wf,hw.wf,⟨by omega,l1⟩,⟨by omega,r1⟩,⟨by omega,by omega⟩,trivial⟩,?_,?_⟩⟩
 ·have h1:=hk.dp;have h2:=hw.dp;show max (dep k) (max (dep wo) (max 0 (max 0 (max 0 0))))+1<=5;omega
 ·have h1:=hk.nd;have h2:=hw.nd;show 1+(nodes k+(nodes wo+(1+(1+(1+0)))))<=80;omega
def zb7 {l r:Tr}{k w:Th}(hk:KeyT k)(hw:KeyT w)(h:(node l k w r).cnt<=300):NodeOk k w l.root r.root (((l.ps++(k,w)::r.ps).length:Nat):Int)/\Good (node l k w r).thing:=by have h1:=zgq l;have h2:=zgq r;have h3:(l.ps++(k,w)::r.ps).length=(node l k w r).cnt:=rfl;have h4:=zM l k w r;exact zlK hk hw h1.1 (by omega) h2.1 (by omega) (by omega) (by omega)
def zm8:Sp:=λvs H Q _=>∃(t:Th) (v:V),vs=[v]/\Rep H t v/\Good t/\∀H',Same H H'->Q (.int (zdf t)) H'
def zfS:Sp:=λvs H Q _=>∃(t u:Th) (v w:V),vs=[v,w]/\Rep H t v/\Rep H u w/\Good t/\Good u/\∀H',Same H H'->Q (.bl (zaI t u)) H'
def zl9 {t:Th}(g:Good t):Wf (.tup [.str ("rank" :Str),t])/\dep (.tup [.str ("rank" :Str),t]) < 10/\nodes (.tup [.str ("rank" :Str),t])<=100:=by
 have h1:=g.dp;have h2:=g.nd;refine⟨⟨by show(2:Nat)<=40;decide,⟨by decide+kernel,by decide+kernel⟩,g.wf,trivial⟩,?_,?_⟩
 ·show max 0 (max (dep t) 0)+1 < 10;omega
 ·show 1+(1+(nodes t+0))<=100;omega
theorem zab {H:Hp}{k wo:Th}{l r c:Int}{v:V}(rep:Rep H (zbS k wo l r c) v):∃a vk vw,v=.ref a/\H a=some (.tup [vk,vw,.int l,.int r,.int c])/\Rep H k vk/\Rep H wo vw:=by
 obtain⟨a,xs,e,ea,r1⟩:=rep.list;cases r1 with
 | cons h1 r2=>
 cases r2 with
 | cons h2 r3=>
 cases r3 with
 | cons h3 r4=>
 cases r4 with
 | cons h4 r5=>
 cases r5 with
 | cons h5 r6=>
 cases r6 with
 | nil=>
 cases h3;cases h4;cases h5;exact⟨a,_,_,e,ea,h1,h2⟩
section
variable {P:Program}{w:World}{K:QA}{mg:QB}{base:Heap}{C CC:Addr}{x:Str}{t1 t2 t3 t4 t5 t6 t7:Tok}
def zmG (D:Dfn K mg "is_whole" zdH ["value"]) (zt:mg "isinstance" =none) (zbr:mg "int" =none) (zfb:mg "bool" =none):Fn P w K mg base "is_whole" 1 ["value"] zkj:=by
 refine D.ok (k:=0) zfX (λvs H Q E h=>?_) (λf cdv A outer s H vs Q E hr h=>?_)
 ·rcases h with ⟨i,rfl,_⟩ | ⟨rfl,_⟩ <;> rfl
 refine⟨_,(zd (zq (zdW (zF (zW) (by rfl) zt (by rfl) (za (pv 0) (za (zaV (v:=.ty "int") (by rfl) zbr (by rfl) rfl) zc))) (zdV (zng (zF (zW) (by rfl) zt (by rfl) (za (pv 0) (za (zaV (v:=.ty "bool") (by rfl) zfb (by rfl) rfl) zc)))))))),?_⟩;rcases h with ⟨i,rfl,q⟩ | ⟨rfl,q⟩
 ·refine⟨_,rfl,_,_,_,_,rfl,.int i,rfl,_,rfl,ifT rfl ?_⟩;refine⟨_,rfl,_,_,_,_,rfl,.int i,rfl,_,rfl,q⟩
 ·exact⟨_,rfl,_,_,_,_,rfl,.non,rfl,_,rfl,ifF rfl q⟩
def zo7 (D:Dfn K mg "rank" znQ ["key"]) (zcD:Fn P w K mg base "seal" 13 ["thing"] zeY):Fn P w K mg base "rank" 14 ["key"] zm8:=by
 refine D.ok (k:=13) zqd (λvs H Q E h=>?_) (λf cdv A outer s H vs Q E hr h=>?_)
 ·obtain⟨t,v,rfl,_⟩:=h;rfl
 obtain⟨t,v,rfl,rt,gt,q⟩:=h;obtain⟨g1,g2,g3⟩:=zl9 gt;refine⟨_,(zd (zq (zK zcD hr (by omega) (by rfl) (za (zbj (za zam (za (pv 0) zc))) zc)))),?_⟩;refine⟨_,rfl,szl (show 2<=1000 by decide),λp hp=>?_⟩;exact⟨_,_,rfl,(RepL.cons (.str _) (.cons rt .nil)).new hp,g1,g2,g3,λH' s'=>q H' ((zv (Same.refl H) hp).trans s')⟩
def zns (D:Dfn K mg "above" zjC ["key","other"]) (zoj:Fn P w K mg base "rank" 14 ["key"] zm8) (zeG:Fn P w K mg base "ahead" 20 ["one","other"] (zfV 9)):Fn P w K mg base "above" 21 ["key","other"] zfS:=by
 refine D.ok (k:=20) zij (λvs H Q E h=>?_) (λf cdv A outer s H vs Q E hr h=>?_)
 ·obtain⟨t,u,v,w,rfl,_⟩:=h;rfl
 obtain⟨t,u,v,w,rfl,rt,ru,gt,gu,q⟩:=h;refine⟨_,(zb (zu (i:=2) zij.nd rfl (Or.inl rfl) (zK zoj hr (by omega) (by rfl) (za (pv 0) zc)))
 (zb (zu (i:=3) zij.nd rfl (Or.inl rfl) (zK zoj hr (by omega) (by rfl) (za (pv 1) zc)))
 (zb (zN (zB zee (pv 2) (pv 3) (zA _))
 (zd (zq (zaF zm0 (pv 2) (pv 3) (zA _))))
 zy)
 (zd (zq (zK zeG hr (by omega) (by rfl) (za (pv 0) (za (pv 1) zc)))))))),?_⟩
 refine⟨_,rfl,t,v,rfl,rt,gt,λH1 s1=>?_⟩;refine⟨_,rfl,u,w,rfl,ru.keep (Same.tups s1),gu,λH2 s2=>?_⟩;have s12:=s1.trans s2;have gd:=gt.dp;refine⟨_,rfl,_,rfl,rfl,_,rfl,?_⟩;rw[zcO];refine ifB (λc=>?_) (λc=>?_)
 ·have ne:zdf t≠zdf u:=λz=>by rw[decide_eq_true z] at c;cases c
  refine⟨_,rfl,_,rfl,_,_,rfl,rfl,?_⟩;have:=q H2 s12;unfold zaI at this;rw[if_neg ne] at this;exact this
 ·have eq:zdf t=zdf u:=by
   by_cases z:zdf t=zdf u
   ·exact z
   ·rw[Je z] at c;cases c
  refine⟨_,rfl,_,rfl,t,u,v,w,rfl,rt.keep (Same.tups s12),ru.keep (Same.tups s12),by omega,by omega,λH3 s3=>?_⟩;have:=q H3 (s12.trans s3);unfold zaI at this;rw[if_pos eq] at this;exact this
end
end Pv
namespace Pv
open PySem L2
theorem zkl {H:Hp}{t:Th}{v:V}(r:Rep H t v):decide (v=V.non)=decide (t=.non):=by
 cases r with
 | non=>rfl
 | int i=>exact(Je (by intro z;cases z)).trans (Je (by intro z;cases z)).symm
 | str x=>exact(Je (by intro z;cases z)).trans (Je (by intro z;cases z)).symm
 | tup e l h=>exact(Je (by intro z;cases z)).trans (Je (by intro z;cases z)).symm
structure Nd where
 k:Th
 w:Th
 l:Int
 r:Int
 c:Int
abbrev Nd.th (n:Nd):Th:=zbS n.k n.w n.l n.r n.c
def isW:Th->Bool
 | .int _=>true
 | _=>false
def isR:Th->Bool
 | .int i=>decide (0<=i)
 | _=>false
def zne:Th->Bool
 | .int i=>decide (1<=i) && decide (i<=300)
 | _=>false
def isN:Th->Bool
 | .tup [k,w,l,r,c]=>!decide (k=.non) && (!decide (w=.non) && (isR l && (isR r && zne c)))
 | _=>false
def ndOf:Th->Option Nd
 | .tup [k,w,.int l,.int r,.int c]=>if isN (.tup [k,w,.int l,.int r,.int c])=true then some ⟨k,w,l,r,c⟩ else none
 | _=>none
theorem zkK {ts:List Th}(h:ts.length≠5):isN (.tup ts)=false:=by
 match ts,h with
 | [],_=>rfl
 | [_],_=>rfl
 | [_,_],_=>rfl
 | [_,_,_],_=>rfl
 | [_,_,_,_],_=>rfl
 | [_,_,_,_,_],h=>exact Jh rfl h
 | _::_::_::_::_::_::_,_=>rfl
def zqw {nd:Nd}(h:NodeOk nd.k nd.w nd.l nd.r nd.c):isN nd.th=true:=by
 show(!decide (nd.k=.non) && (!decide (nd.w=.non) && (decide (0<=nd.l) && (decide (0<=nd.r) && (decide (1<=nd.c) && decide (nd.c<=300))))))=true;rw[Je h.k0,Je h.w0,decide_eq_true h.l0,decide_eq_true h.r0,decide_eq_true h.c1,decide_eq_true h.c2]
 rfl
def zqV {nd:Nd}(h:isN nd.th=true):NodeOk nd.k nd.w nd.l nd.r nd.c:=by have h':(!decide (nd.k=.non) && (!decide (nd.w=.non) && (decide (0<=nd.l) && (decide (0<=nd.r) && (decide (1<=nd.c) && decide (nd.c<=300))))))=true:=h;simp only[Bool.and_eq_true,Bool.not_eq_true',decide_eq_false_iff_not,decide_eq_true_eq] at h';obtain⟨a,b,c,d,e,f⟩:=h';exact⟨a,b,c,d,e,f⟩
theorem zkW {nd:Nd}(h:isN nd.th=true):ndOf nd.th=some nd:=by show(if isN nd.th=true then some nd else none)=some nd;rw[if_pos h]
def zki {t:Th}(h:isR t=true):∃i,t=.int i:=by
 cases t with
 | int i=>exact⟨i,rfl⟩
 | non=>cases h
 | str x=>cases h
 | tup ts=>cases h
def zqv {t:Th}(h:isN t=true):∃nd:Nd,t=nd.th:=by
 cases t with
 | non=>cases h
 | int i=>cases h
 | str x=>cases h
 | tup ts=>
  by_cases hl:ts.length=5
  ·match ts,hl,h with
   | [k,w,l,r,c],_,h=>
    have h':(!decide (k=.non) && (!decide (w=.non) && (isR l && (isR r && zne c))))=true:=h;simp only[Bool.and_eq_true] at h';obtain⟨_,_,h3,h4,h5⟩:=h';obtain⟨l',rfl⟩:=zki h3;obtain⟨r',rfl⟩:=zki h4;cases c with
    | int c'=>exact⟨⟨k,w,l',r',c'⟩,rfl⟩
    | non=>cases h5
    | str x=>cases h5
    | tup ts=>cases h5
  ·rw[zkK hl] at h;cases h
def zhz {t:Th}{nd:Nd}(h:ndOf t=some nd):t=nd.th/\isN t=true:=by
 unfold ndOf at h;split at h
 ·rename_i k w l r c;split at h
  ·rename_i z;cases h;exact⟨rfl,z⟩
  ·cases h
 ·cases h
theorem zlQ {t:Th}(h:ndOf t=none):isN t=false:=by
 cases z:isN t with
 | false=>rfl
 | true=>obtain⟨nd,rfl⟩:=zqv z;rw[zkW z] at h;cases h
def zgp:Sp:=λvs H Q _=>∃(t:Th) (v:V),vs=[v]/\Rep H t v/\Q (.bl (isW t)) H
def zkT:Sp:=λvs H Q _=>∃(t:Th) (v:V),vs=[v]/\Rep H t v/\Q (.bl (isR t)) H
def zoa:Sp:=λvs H Q _=>∃(t:Th) (v:V),vs=[v]/\Rep H t v/\Q (.bl (isN t)) H
section
variable {P:Program}{w:World}{K:QA}{mg:QB}{base:Heap}{x:Str}{t1 t2 t3 t4 t5 t6 t7:Tok}
def zlE (D:Dfn K mg "is_whole" zdH ["value"]) (zt:mg "isinstance" =none) (zbr:mg "int" =none) (zfb:mg "bool" =none):Fn P w K mg base "is_whole" 1 ["value"] zgp:=by
 refine D.ok (k:=0) zfX (λvs H Q E h=>?_) (λf cdv A outer s H vs Q E hr h=>?_)
 ·obtain⟨t,v,rfl,_⟩:=h;rfl
 obtain⟨t,v,rfl,rt,q⟩:=h;refine⟨_,(zd (zq (zdW (zF (zW) (by rfl) zt (by rfl) (za (pv 0) (za (zaV (v:=.ty "int") (by rfl) zbr (by rfl) rfl) zc))) (zdV (zng (zF (zW) (by rfl) zt (by rfl) (za (pv 0) (za (zaV (v:=.ty "bool") (by rfl) zfb (by rfl) rfl) zc)))))))),?_⟩;cases rt with
 | non=>exact⟨_,rfl,_,_,_,_,rfl,.non,rfl,_,rfl,ifF rfl q⟩
 | int i=>refine⟨_,rfl,_,_,_,_,rfl,.int i,rfl,_,rfl,ifT rfl ?_⟩;exact⟨_,rfl,_,_,_,_,rfl,.int i,rfl,_,rfl,q⟩
 | str x=>exact⟨_,rfl,_,_,_,_,rfl,.str x,rfl,_,rfl,ifF rfl q⟩
 | tup e l h=>exact⟨_,rfl,_,_,_,_,rfl,.tup e,rfl,_,rfl,ifF rfl q⟩
def znq (D:Dfn K mg "is_root" zf3 ["thing"]) (zbG:Fn P w K mg base "is_whole" 1 ["value"] zgp):Fn P w K mg base "is_root" 2 ["thing"] zkT:=by
 refine D.ok (k:=1) zl4 (λvs H Q E h=>?_) (λf cdv A outer s H vs Q E hr h=>?_)
 ·obtain⟨t,v,rfl,_⟩:=h;rfl
 obtain⟨t,v,rfl,rt,q⟩:=h;refine⟨_,(zd (zq (zdW (zK zbG hr (by omega) (by rfl) (za (pv 0) zc)) (zdV (zaF zpY (pv 0) zo (zA _)))))),?_⟩;refine⟨_,rfl,t,v,rfl,rt,_,rfl,?_⟩;cases rt with
 | non=>exact ifF rfl q
 | int i=>exact ifT rfl ⟨_,rfl,_,_,rfl,rfl,q⟩
 | str x=>exact ifF rfl q
 | tup e l h=>exact ifF rfl q
def zlJ (D:Dfn K mg "is_node" zf5 ["thing"]) (zhD:Fn P w K mg base "is_root" 2 ["thing"] zkT) (zbG:Fn P w K mg base "is_whole" 1 ["value"] zgp) (zt:mg "isinstance" =none) (zay:mg "tuple" =none) (zR:mg "len" =none)
  (zaM:mg "KEY" =some (.int 0 t1)) (zb8:mg "WORTH" =some (.int 1 t2)) (zao:mg "LEFT" =some (.int 2 t3)) (zaa:mg "RIGHT" =some (.int 3 t4)) (zU:mg "COUNT" =some (.int 4 t5)) (zbs:mg "MOST_NODES" =some (.int 300 t6)):
  Fn P w K mg base "is_node" 3 ["thing"] zoa:=by
 refine D.ok (k:=2) zls (λvs H Q E h=>?_) (λf cdv A outer s H vs Q E hr h=>?_)
 ·obtain⟨t,v,rfl,_⟩:=h;rfl
 obtain⟨t,v,rfl,rt,q⟩:=h;refine⟨_,(zb (zN (PW.pt (zfu (zc1 (zah (zF (zW) (by rfl) zt (by rfl) (za (pv 0) (za (zaV (v:=.ty "tuple") (by rfl) zay (by rfl) rfl) zc))))) (zdp (zB zee (zF (zT) (by rfl) zR (by rfl) (za (pv 0) zc)) zo (zA _)))))
 (zd (zq zb2))
 zy)
 (zb (zN (PW.pt (zfu (zB zd3 (zH zI (pv 0) (zx (v:=.int 0) (by rfl) zaM ⟨_,rfl⟩) (λ_ _=>rfl)) zch (zA _)) (zdp (zB zd3 (zH zI (pv 0) (zx (v:=.int 1) (by rfl) zb8 ⟨_,rfl⟩) (λ_ _=>rfl)) zch (zA _)))))
 (zd (zq zb2))
 zy)
 (zb (zN (PW.pt (zfu (zc1 (zah (zK zhD hr (by omega) (by rfl) (za (zH zI (pv 0) (zx (v:=.int 2) (by rfl) zao ⟨_,rfl⟩) (λ_ _=>rfl)) zc)))) (zdp (zc1 (zah (zK zhD hr (by omega) (by rfl) (za (zH zI (pv 0) (zx (v:=.int 3) (by rfl) zaa ⟨_,rfl⟩) (λ_ _=>rfl)) zc)))))))
 (zd (zq zb2))
 zy)
 (zd (zq (zdW (zK zbG hr (by omega) (by rfl) (za (zH zI (pv 0) (zx (v:=.int 4) (by rfl) zU ⟨_,rfl⟩) (λ_ _=>rfl)) zc)) (zdV (znr zkk zkk zo (zH zI (pv 0) (zx (v:=.int 4) (by rfl) zU ⟨_,rfl⟩) (λ_ _=>rfl)) (zx (v:=.int 300) (by rfl) zbs ⟨_,rfl⟩))))))))),?_⟩
 cases rt with
 | non=>exact⟨_,rfl,_,_,_,_,rfl,.non,rfl,_,rfl,ifT rfl (ifT rfl q)⟩
 | int i=>exact⟨_,rfl,_,_,_,_,rfl,.int i,rfl,_,rfl,ifT rfl (ifT rfl q)⟩
 | str x=>exact⟨_,rfl,_,_,_,_,rfl,.str x,rfl,_,rfl,ifT rfl (ifT rfl q)⟩
 | @tup a xs ts ea l0 h0=>
  refine⟨_,rfl,_,_,_,_,rfl,.tup ea,rfl,_,rfl,ifF rfl ?_⟩;refine⟨_,rfl,a,_,rfl,.inr (SqT.of ea),rfl,_,rfl,?_⟩;rw[zcO];by_cases hl:ts.length=5
  ·have rep:Rep H (.tup ts) (.ref a):=.tup ea l0 h0
   match ts,hl,rep,q with
   | [k,wo,l,r,c],_,rep,q=>
   obtain⟨a',xs',e,ea',r1⟩:=rep.list;cases e;rw[ea] at ea';cases ea';cases r1 with
   | cons rk r2=>
   cases r2 with
   | cons rw' r3=>
   cases r3 with
   | cons rl r4=>
   cases r4 with
   | cons rr r5=>
   cases r5 with
   | cons rc r6=>
   cases r6 with
   | nil=>
   refine ifF (by rfl) ?_;rename_i vk vw vl vr vc;have et:SqT K H a [vk,vw,vl,vr,vc]:=SqT.of ea;have q':Q (.bl (!decide (k=.non) && (!decide (wo=.non) && (isR l && (isR r && zne c))))) H:=q;refine⟨_,rfl,a,_,_,_,rfl,rfl,et,rfl,rfl,_,rfl,?_⟩;rw[zkl rk];cases z1:decide (k=.non) with
   | true=>rw[z1] at q';exact ifT rfl (ifT rfl q')
   | false=>
   rw[z1] at q';refine ifF rfl ?_;refine⟨_,rfl,a,_,_,_,rfl,rfl,et,rfl,rfl,_,rfl,?_⟩;rw[zkl rw'];cases z2:decide (wo=.non) with
   | true=>rw[z2] at q';exact ifT rfl q'
   | false=>
   rw[z2] at q';refine ifF rfl ?_;refine⟨_,rfl,a,_,_,_,rfl,rfl,et,rfl,l,_,rfl,rl,_,rfl,?_⟩;cases z3:isR l with
   | false=>rw[z3] at q';exact ifT rfl (ifT rfl q')
   | true=>
   rw[z3] at q';refine ifF rfl ?_;refine⟨_,rfl,a,_,_,_,rfl,rfl,et,rfl,r,_,rfl,rr,_,rfl,?_⟩;cases z4:isR r with
   | false=>rw[z4] at q';exact ifT rfl q'
   | true=>
   rw[z4] at q';refine ifF rfl ?_;refine⟨_,rfl,a,_,_,_,rfl,rfl,et,rfl,c,_,rfl,rc,_,rfl,?_⟩;cases rc with
   | non=>exact ifF rfl q'
   | str x=>exact ifF rfl q'
   | tup e l h=>exact ifF rfl q'
   | int i=>
    refine ifT rfl ?_;refine⟨_,rfl,a,_,_,_,rfl,rfl,et,rfl,_,_,rfl,rfl,_,rfl,?_⟩;have q2:Q (.bl (decide (1<=i) && decide (i<=300))) H:=q';cases z5:decide (1<=i) with
    | false=>rw[z5] at q2;exact ifF rfl q2
    | true=>rw[z5] at q2;exact ifT rfl ⟨_,_,rfl,rfl,q2⟩
  ·rw[zkK hl] at q;refine ifT (by rw[l0];rw[Je (show¬((ts.length:Nat):Int)=5 by omega)];rfl) q
end
inductive Er where
 | bad
 | lacks
 | clash (u t:Th)
structure Vst where
 own:List (Int ×Th)
 kp:List (Int ×Th)
 nt:List (Int ×Th)
 n:Nat
def Vst.all (s:Vst):List (Int ×Th):=s.own++s.kp
def Vst.look (s:Vst)(n:Int):Option (Th ×Vst):=
 match zf s.own n with
 | some t=>some (t,{s with n:=s.n - 1})
 | none=>match zf s.kp n with
  | some t=>some (t,{s with nt:=addT s.nt n t,n:=s.n - 1})
  | none=>none
def Vst.add (s:Vst)(t:Th):Vst:={s with own:=addT s.own (zj t) t,n:=s.n - 1}
def Vst.stop (s:Vst)(t:Th):Option Th:=match zf s.all (zj t) with
 | none=>none
 | some u=>if u=t then none else some u
inductive Pg (α:Type) where
 | ret (x:α)
 | bad
 | rd (n:Int) (k:Th->Pg α)
 | lay (t:Th) (k:Pg α)
def Pg.bind {α β:Type}:Pg α->(α->Pg β)->Pg β
 | .ret x,f=>f x
 | .bad,_=>.bad
 | .rd n k,f=>.rd n λt=>(k t).bind f
 | .lay t k,f=>.lay t (k.bind f)
def Pg.wp {α:Type}:Pg α->Vst->(α->Vst->Prop)->(Er->Vst->Prop)->Prop
 | .ret x,s,q,_=>q x s
 | .bad,s,_,e=>e .bad s
 | .rd n k,s,q,e=>0 < s.n/\(∀t s',s.look n=some (t,s')->(k t).wp s' q e)/\(s.look n=none->e .lacks s)
 | .lay t k,s,q,e=>0 < s.n/\Good t/\(s.stop t=none->k.wp (s.add t) q e)/\(∀u,s.stop t=some u->e (.clash u t) s)
theorem Pg.wp_bind {α β:Type}{f:α->Pg β}{q:β->Vst->Prop}{e:Er->Vst->Prop}:∀{p:Pg α} {s:Vst},(p.bind f).wp s q e=p.wp s (λx s'=>(f x).wp s' q e) e
 | .ret x,s=>rfl
 | .bad,s=>rfl
 | .rd n k,s=>by show(0 < s.n/\(∀t s',s.look n=some (t,s')->((k t).bind f).wp s' q e)/\(s.look n=none->e .lacks s))=(0 < s.n/\(∀t s',s.look n=some (t,s')->(k t).wp s' (λx s'=>(f x).wp s' q e) e)/\(s.look n=none->e .lacks s));rw[show(∀t s',s.look n=some (t,s')->((k t).bind f).wp s' q e)=(∀t s',s.look n=some (t,s')->(k t).wp s' (λx s'=>(f x).wp s' q e) e) from forall_congr λt=>forall_congr λs'=>by rw[wp_bind (p:=k t)]]
 | .lay t k,s=>by show(0 < s.n/\Good t/\(s.stop t=none->(k.bind f).wp (s.add t) q e)/\(∀u,s.stop t=some u->e (.clash u t) s))=(0 < s.n/\Good t/\(s.stop t=none->k.wp (s.add t) (λx s'=>(f x).wp s' q e) e)/\(∀u,s.stop t=some u->e (.clash u t) s));rw[wp_bind (p:=k)]
theorem Pg.wp_mono {α:Type}{q q':α->Vst->Prop}{e e':Er->Vst->Prop}(hq:∀x s,q x s->q' x s)(he:∀r s,e r s->e' r s):∀{p:Pg α} {s:Vst},p.wp s q e->p.wp s q' e'
 | .ret x,s,h=>hq x s h
 | .bad,s,h=>he _ s h
 | .rd n k,s,⟨h0,h,h2⟩=>⟨h0,λt s' z=>wp_mono hq he (h t s' z),λz=>he _ s (h2 z)⟩
 | .lay t k,s,⟨h0,hg,h,h2⟩=>⟨h0,hg,λz=>wp_mono hq he (h z),λu z=>he _ s (h2 u z)⟩
def NL (H H':Hp):Prop:=∀b o,(∀xs,o≠ .lst xs)->H b=some o->H' b=some o
def Same.nl {H H':Hp}(s:Same H H'):NL H H':=λb o _ e=>s b o e
theorem NL.lst {H:Hp}{p:Addr}{xs ys:QQ}(e:H p=some (.lst xs)):NL H (upd H p (.lst ys)):=λb o h q=>by rw[zk (λz=>by rw[z,e] at q;cases q;exact h xs rfl)];exact q
abbrev VRT:=Hp->Addr->List Addr->Vst->Prop
structure VI (C:Addr)(VR:VRT):Prop where
 ins:∀{H a D s},VR H a D s->∃dx fs,H a=some (.ins C dx fs)/\fs.lookup ("thing" :Str)=none/\fs.lookup ("lay" :Str)=none
 dic:∀{H a D s},VR H a D s->∀d∈D,∃kv,H d=some (.dK kv)
 nl:∀{H H' a D s},VR H a D s->NL H H'->VR H' a D s
theorem VI.same {C:Addr}{VR:VRT}(I:VI C VR){H H':Hp}{a:Addr}{D:QO}{s:Vst}(v:VR H a D s)(sm:Same H H'):VR H' a D s:=I.nl v (Same.nl sm)
def VI.not {C:Addr}{VR:VRT}(I:VI C VR){H:Hp}{a b:Addr}{D:QO}{s:Vst}{o:HO}(v:VR H a D s)(e:H b=some o)(h:∀kv,o≠ .dK kv):b∉D:=λz=>by obtain⟨kv,ek⟩:=I.dic v b z;rw[ek] at e;cases e;exact h kv rfl
theorem VI.tups {C:Addr}{VR:VRT}(I:VI C VR){H H':Hp}{a:Addr}{D:QO}{s:Vst}(v:VR H a D s)(f:Frm D H H'):Tups H H':=λb xs e=>f b _ (I.not v e (by intro kv z;cases z)) e
theorem VI.lst {C:Addr}{VR:VRT}(I:VI C VR){H H':Hp}{a b:Addr}{D:QO}{s:Vst}{xs:QQ}(v:VR H a D s)(f:Frm D H H')(e:H b=some (.lst xs)):H' b=some (.lst xs):=f b _ (I.not v e (by intro kv z;cases z)) e
def OutE (VR:VRT)(CN CB CC a:Addr)(D:QO)(H:Hp)(E:XK):Er->Vst->Prop
 | .bad,s=>∀H',Frm D H H'->VR H' a D s->E (.ref CB) none H'
 | .lacks,s=>∀H',Frm D H H'->VR H' a D s->E (.ref CN) none H'
 | .clash u t,s=>∀(x:Addr) (v1 v2:V) (H':Hp),Frm D H H'->VR H' a D s->Rep H' u v1->Rep H' t v2->Good u->Good t->u≠t->zj u=zj t->H' x=some (xdO x [("one",v1),("other",v2)])->E (.ref CC) (some x) H'
theorem OutE.on {VR:VRT}{CN CB CC a:Addr}{D:QO}{H H1:Hp}{E:XK}(f:Frm D H H1):∀r s,OutE VR CN CB CC a D H E r s->OutE VR CN CB CC a D H1 E r s
 | .bad,s,h=>λH' f' v=>h H' (f.trans f') v
 | .lacks,s,h=>λH' f' v=>h H' (f.trans f') v
 | .clash u t,s,h=>λx v1 v2 H' f' v=>h x v1 v2 H' (f.trans f') v
def OutQ {α:Type}(VR:VRT)(a:Addr)(D:QO)(rp:Hp->α->V->Prop)(H:Hp)(Q:V->Hp->Prop)(x:α)(s:Vst):Prop:=∀v H',Frm D H H'->VR H' a D s->rp H' x v->Q v H'
def OutQ.on {α:Type}{VR:VRT}{a:Addr}{D:QO}{rp:Hp->α->V->Prop}{H H1:Hp}{Q:V->Hp->Prop}(f:Frm D H H1)(x:α)(s:Vst)(h:OutQ VR a D rp H Q x s):OutQ VR a D rp H1 Q x s:=λv H' f'=>h v H' (f.trans f')
abbrev Out {α:Type}(VR:VRT)(CN CB CC a:Addr)(D:QO)(p:Pg α)(s:Vst)(rp:Hp->α->V->Prop)(H:Hp)(Q:V->Hp->Prop)(E:XK):Prop:=p.wp s (OutQ VR a D rp H Q) (OutE VR CN CB CC a D H E)
def zeB (VR:VRT)(CN:Addr):Sp:=λvs H Q E=>∃(a:Addr) (D:QO) (s:Vst) (n:Int),vs=[.ref a,.int n]/\VR H a D s/\0 < s.n/\
 (∀t s' v H',s.look n=some (t,s')->Frm D H H'->VR H' a D s'->Rep H' t v->Good t->Q v H')/\(∀H',s.look n=none->Frm D H H'->VR H' a D s->E (.ref CN) none H')
def zd1 (VR:VRT)(CC:Addr):Sp:=λvs H Q E=>∃(a:Addr) (D:QO) (s:Vst) (t:Th) (v:V),vs=[.ref a,v]/\VR H a D s/\0 < s.n/\Rep H t v/\Good t/\
 (∀H',s.stop t=none->Frm D H H'->VR H' a D (s.add t)->Q (.int (zj t)) H')/\
 (∀(u:Th) (x:Addr) (v1 v2:V) (H':Hp),s.stop t=some u->Frm D H H'->VR H' a D s->Rep H' u v1->Rep H' t v2->Good u->Good t->u≠t->zj u=zj t->H' x=some (xdO x [("one",v1),("other",v2)])->E (.ref CC) (some x) H')
def NdR (H:Hp)(nd:Nd)(v:V):Prop:=Rep H nd.th v/\Good nd.th
def benK (m:Int)(t:Th):Pg Nd:=match ndOf t with
 | none=>.bad
 | some nd=>if nd.c < m then .ret nd else .bad
theorem zhw {m:Int}{t:Th}(h:ndOf t=none):benK m t=.bad:=by unfold benK;rw[h]
theorem zeV {m:Int}{t:Th}{nd:Nd}(h:ndOf t=some nd):benK m t=if nd.c < m then .ret nd else .bad:=by unfold benK;rw[h]
def benP (n m:Int):Pg Nd:=.rd n (benK m)
def zk1 {n m:Int}{s:Vst}{q:Nd->Vst->Prop}{e:Er->Vst->Prop}(h:(benP n m).wp s q e):(benP n m).wp s (λnd s'=>(1<=nd.c/\nd.c < m)/\q nd s') e:=by
 refine⟨h.1,λt s' z=>?_,h.2.2⟩;have h1:=h.2.1 t s' z;cases y:ndOf t with
 | none=>rw[zhw y] at h1 ⊢;exact h1
 | some nd=>
  rw[zeV y] at h1 ⊢;obtain⟨rfl,zz⟩:=zhz y;by_cases hc:nd.c < m
  ·rw[if_pos hc] at h1 ⊢;exact⟨⟨(zqV zz).c1,hc⟩,h1⟩
  ·rw[if_neg hc] at h1 ⊢;exact h1
def IntR (_:Hp)(i:Int)(v:V):Prop:=v=.int i
def zhK (VR:VRT)(CN CB CC:Addr):Sp:=λvs H Q E=>∃(a:Addr) (D:QO) (s:Vst) (n m:Int),vs=[.ref a,.int n,.int m]/\VR H a D s/\Out VR CN CB CC a D (benP n m) s NdR H Q E
section
variable {P:Program}{w:World}{K:QA}{mg:QB}{base:Heap}{VR:VRT}{C CC CN CB:Addr}{x:Str}{t1 t2 t3 t4 t5 t6 t7:Tok}
def zpb (I:VI C VR)(D:Dfn K mg "node_beneath" zbI ["vault","root","count"]) (zc5:Mt P w K mg base (CX1 P w) C "thing" 2 ["self","number"] (zeB VR CN)) (c_K:Cls K C) (zfc:Fn P w K mg base "is_node" 3 ["thing"] zoa) (zcl:XP K mg "BadThing" CB) (zU:mg "COUNT" =some (.int 4 t5)):
  FnX P w K mg base "node_beneath" 4 ["vault","root","count"] (zhK VR CN CB CC):=by
 refine D.okX (k:=3) zdk (λvs H Q E h=>?_) (λf cdv A outer s H vs Q E hr h=>?_)
 ·obtain⟨a,D,s,n,m,rfl,_⟩:=h;rfl
 obtain⟨a,D,s,n,m,rfl,vs,h⟩:=h;obtain⟨h0,h1,h2⟩:=h;obtain⟨dx,fs,eo,n1,n2⟩:=I.ins vs;refine⟨_,(zb (zu (i:=3) zdk.nd rfl (Or.inl rfl) (zbw (pv 0) c_K zc5 hr (by omega) zL (za (pv 1) zc)))
 (zb (zN (PW.pt (zfu (zc1 (zah (zK zfc hr (by omega) (by rfl) (za (pv 3) zc)))) (zdp (zB zpY (zH zI (pv 3) (zx (v:=.int 4) (by rfl) zU ⟨_,rfl⟩) (λ_ _=>rfl)) (pv 2) (zA _)))))
 (zd (zeA zey rfl (zni zcl (by rfl) (za zam zc))))
 zy)
 (zd (zq (pv 3))))),?_⟩
 refine⟨_,rfl,a,dx,_,rfl,eo,n1,_,rfl,a,D,s,n,rfl,vs,h0,λt s' v H1 lt f1 vs1 rep gt=>?_,λH1 ln f1 vs1=>h2 ln H1 f1 vs1⟩;have h3:=h1 t s' lt;refine⟨_,rfl,t,v,rfl,rep,_,rfl,?_⟩;cases z:ndOf t with
 | none=>rw[zhw z] at h3;rw[zlQ z];refine ifT rfl (ifT rfl ⟨szl (show 1<=1000 by decide),λe he=>⟨e,CB,none,rfl,zg,zcl.cl.q,?_⟩⟩);rw[zh0 he];exact h3 H1 f1 vs1
 | some nd=>
  rw[zeV z] at h3;obtain⟨rfl,zz⟩:=zhz z;rw[zz];obtain⟨p,vk,vw,rfl,ea,rk,rw'⟩:=zab rep;have et:SqT K H1 p [vk,vw,.int nd.l,.int nd.r,.int nd.c]:=SqT.of ea;refine ifF rfl ⟨_,rfl,p,_,_,_,rfl,rfl,et,rfl,_,rfl,_,_,rfl,rfl,_,rfl,?_⟩;by_cases hc:nd.c < m
  ·rw[if_pos hc] at h3;exact ifF (Je (Int.not_le.mpr hc)) ⟨_,rfl,h3 _ H1 f1 vs1 ⟨rep,gt⟩⟩
  ·rw[if_neg hc] at h3;refine ifT (decide_eq_true (Int.not_lt.mp hc)) ⟨szl (show 1<=1000 by decide),λe he=>⟨e,CB,none,rfl,zg,zcl.cl.q,?_⟩⟩;rw[zh0 he];exact h3 H1 f1 vs1
end
abbrev zgg:Stmt:=top 49
def zl0:zr ["node","key"] ["node","key"] (ze zgg):=L2.fsc (by decide+kernel)
abbrev zd4:Stmt:=top 52
def ziY:zr ["node","side","root","count"] ["node","side","root","count"] (ze zd4):=L2.fsc (by decide+kernel)
abbrev zfE:Stmt:=top 50
def zcH:zr ["vault","root","key","way","count","node"] ["vault","root","key"] (ze zfE):=L2.fsc (by decide+kernel)
abbrev zf8:Stmt:=top 51
def zl3:zr ["way","key"] ["way","key"] (ze zf8):=L2.fsc (by decide+kernel)
def zeh {xs:QQ}{v:V}:atI (xs++ [v]) (-1)=some v:=by
 unfold atI ixN;rw[if_neg (by decide),if_pos (by simp only[List.length_append,List.length_singleton];omega)];show(xs++ [v])[((-1:Int)+(((xs++ [v]).length:Nat):Int)).toNat]? =_;rw[show((-1:Int)+(((xs++ [v]).length:Nat):Int)).toNat=xs.length by simp only[List.length_append,List.length_singleton];omega,List.getElem?_append_right (Jb _),Nat.sub_self]
 rfl
theorem RepL.unsnoc {H:Hp}{t:Th}:∀{ts:List Th} {vs:QQ},RepL H (ts++ [t]) vs->∃us v,vs=us++ [v]/\RepL H ts us/\Rep H t v
 | [],_,.cons h .nil=>⟨[],_,rfl,.nil,h⟩
 | u::ts,_,.cons h r=>by obtain⟨us,v,e,r',h'⟩:=RepL.unsnoc r;exact⟨_::us,v,by rw[e];rfl,.cons h r',h'⟩
def zfB {nd:Nd}(g:Good nd.th):dep nd.k<=7/\dep nd.w<=7:=by have h:max (dep nd.k) (max (dep nd.w) (max 0 (max 0 (max 0 0))))+1<=8:=Jk g.dp (by decide);omega
def zc6 (k x:Th):Int:=if zh k x=true then 3 else 2
def kidI (nd:Nd)(x:Th):Int:=if zh nd.k x=true then nd.r else nd.l
def wayP (x:Th):Nat->Int->Int->Pg (List Nd)
 | 0,_,_=>.bad
 | f+1,n,m=>if n=0 then .ret [] else(benP n m).bind λnd=>if nd.k=x then .ret [nd] else(wayP x f (kidI nd x) nd.c).bind λns=>.ret (nd::ns)
theorem zmX {x:Th}{q:List Nd->Vst->Prop}{e:Er->Vst->Prop}:∀{f:Nat} {n m:Int} {s:Vst},m<=301->(wayP x f n m).wp s q e->(wayP x f n m).wp s (λns s'=>(∀nd∈ns,1<=nd.c/\nd.c<=300)/\q ns s') e
 | 0,_,_,_,_,h=>h
 | f+1,n,m,s,hm,h=>by
  unfold wayP at h ⊢;by_cases h0:n=0
  ·rw[if_pos h0] at h ⊢;exact⟨λnd z=>(nomatch z),h⟩
  ·rw[if_neg h0,Pg.wp_bind] at h ⊢;refine Pg.wp_mono (λnd s' h1=>?_) (λ_ _ z=>z) (zk1 h);obtain⟨⟨c1,c2⟩,h1⟩:=h1;by_cases ek:nd.k=x
   ·rw[if_pos ek] at h1 ⊢;exact⟨λy hy=>by rw[Ji.mp hy];exact⟨c1,by omega⟩,h1⟩
   ·rw[if_neg ek,Pg.wp_bind] at h1 ⊢;refine Pg.wp_mono (λns s2 h2=>?_) (λ_ _ z=>z) (zmX (by omega) h1);refine⟨λy hy=>?_,h2.2⟩;rcases List.mem_cons.mp hy with rfl | hy
    ·exact⟨c1,by omega⟩
    ·exact h2.1 y hy
def WayR (H:Hp)(ns:List Nd)(v:V):Prop:=∃pw ws,v=.ref pw/\H pw=some (.lst ws)/\RepL H (ns.map Nd.th) ws/\(∀nd∈ns,Good nd.th)/\ns.length<=301
def zfv (ns:List Nd)(x:Th):Bool:=match ns.getLast? with
 | none=>false
 | some nd=>eqT nd.k x
def zea:Sp:=λvs H Q _=>∃(v vx:V) (nd:Nd) (x:Th),vs=[v,vx]/\Rep H nd.th v/\Rep H x vx/\dep nd.k<=7/\∀H',Same H H'->Q (.int (zc6 nd.k x)) H'
def zaw (nd:Nd)(s n m:Int):Nd:=if s=2 then⟨nd.k,nd.w,n,nd.r,m⟩ else⟨nd.k,nd.w,nd.l,n,m⟩
def zes:Sp:=λvs H Q _=>∃(v:V) (nd:Nd) (i n m:Int),vs=[v,.int i,.int n,.int m]/\Rep H nd.th v/\∀p H',Same H H'->Rep H' (zaw nd i n m).th (.ref p)->Q (.ref p) H'
def zjU (VR:VRT)(CN CB CC:Addr):Sp:=λvs H Q E=>∃(a:Addr) (D:QO) (s:Vst) (n:Int) (x:Th) (vx:V),vs=[.ref a,.int n,vx]/\VR H a D s/\Rep H x vx/\dep x<=8/\Out VR CN CB CC a D (wayP x 301 n 301) s WayR H Q E
def zfN (K:QA):Sp:=λvs H Q _=>∃(pw:Addr) (ws:QQ) (ns:List Nd) (x:Th) (vx:V),vs=[.ref pw,vx]/\SqL K H pw ws/\RepL H (ns.map Nd.th) ws/\(∀nd∈ns,Good nd.th)/\Rep H x vx/\Q (.bl (zfv ns x)) H
def zk7 {ws:QO}{H H1:Hp}{p:Addr}{o:HO}(f:Frm ws H H1)(h:H p=none):Frm ws H (upd H1 p o):=λb u n q=>by rw[zk (zm q h)];exact f b u n q
theorem zjZ {t u:Th}(h:t=u):eqT t u=true:=by rw[h,zaO]
theorem zn0 {t u:Th}(h:t≠u):eqT t u=false:=by
 cases z:eqT t u with
 | true=>exact Jh ((za8 _ _).mp z) h
 | false=>rfl
section
variable {P:Program}{w:World}{K:QA}{mg:QB}{base:Heap}{VR:VRT}{C CC CN CB:Addr}{x:Str}{t1 t2 t3 t4 t5 t6 t7:Tok}
def zn1 (D:Dfn K mg "side_of" zgg ["node","key"]) (zeG:Fn P w K mg base "ahead" 20 ["one","other"] (zfV 9)) (zaM:mg "KEY" =some (.int 0 t1)) (zao:mg "LEFT" =some (.int 2 t3)) (zaa:mg "RIGHT" =some (.int 3 t4)):Fn P w K mg base "side_of" 21 ["node","key"] zea:=by
 refine D.ok (k:=20) zl0 (λvs H Q E h=>?_) (λf cdv A outer s H vs Q E hr h=>?_)
 ·obtain⟨v,vx,nd,x,rfl,_⟩:=h;rfl
 obtain⟨v,vx,nd,x,rfl,rn,rx,kd,q⟩:=h;obtain⟨p,vk,vw,rfl,ea,rk,rw'⟩:=zab rn;have et:SqT K H p [vk,vw,.int nd.l,.int nd.r,.int nd.c]:=SqT.of ea;refine⟨_,(zd (zq (zew (zah (zK zeG hr (by omega) (by rfl) (za (zH zI (pv 0) (zx (v:=.int 0) (by rfl) zaM ⟨_,rfl⟩) (λ_ _=>rfl)) (za (pv 1) zc)))) (zx (v:=.int 3) (by rfl) zaa ⟨_,rfl⟩) (zx (v:=.int 2) (by rfl) zao ⟨_,rfl⟩)))),?_⟩;refine⟨_,rfl,p,_,_,_,rfl,rfl,et,rfl,_,rfl,nd.k,x,_,_,rfl,rk,rx,by omega,by omega,λH1 s1=>⟨_,rfl,?_⟩⟩;have q1:=q H1 s1;unfold zc6 at q1;cases z:zh nd.k x with
 | true=>rw[if_pos z] at q1;exact ifT rfl q1
 | false=>rw[if_neg (by rw[z];exact Jf)] at q1;exact ifF rfl q1
def zmI (D:Dfn K mg "with_tree" zd4 ["node","side","root","count"]) (zaM:mg "KEY" =some (.int 0 t1)) (zb8:mg "WORTH" =some (.int 1 t2)) (zao:mg "LEFT" =some (.int 2 t3)) (zaa:mg "RIGHT" =some (.int 3 t4)):Fn P w K mg base "with_tree" 1 ["node","side","root","count"] zes:=by
 refine D.ok (k:=0) ziY (λvs H Q E h=>?_) (λf cdv A outer s H vs Q E hr h=>?_)
 ·obtain⟨v,nd,i,n,m,rfl,_⟩:=h;rfl
 obtain⟨v,nd,i,n,m,rfl,rn,q⟩:=h;obtain⟨p,vk,vw,rfl,ea,rk,rw'⟩:=zab rn;have et:SqT K H p [vk,vw,.int nd.l,.int nd.r,.int nd.c]:=SqT.of ea;refine⟨_,(zb (zN (zB zb0 (pv 1) (zx (v:=.int 2) (by rfl) zao ⟨_,rfl⟩) (zA _))
 (zd (zq (zbj (za (zH zI (pv 0) (zx (v:=.int 0) (by rfl) zaM ⟨_,rfl⟩) (λ_ _=>rfl)) (za (zH zI (pv 0) (zx (v:=.int 1) (by rfl) zb8 ⟨_,rfl⟩) (λ_ _=>rfl)) (za (pv 2) (za (zH zI (pv 0) (zx (v:=.int 3) (by rfl) zaa ⟨_,rfl⟩) (λ_ _=>rfl)) (za (pv 3) zc))))))))
 zy)
 (zd (zq (zbj (za (zH zI (pv 0) (zx (v:=.int 0) (by rfl) zaM ⟨_,rfl⟩) (λ_ _=>rfl)) (za (zH zI (pv 0) (zx (v:=.int 1) (by rfl) zb8 ⟨_,rfl⟩) (λ_ _=>rfl)) (za (zH zI (pv 0) (zx (v:=.int 2) (by rfl) zao ⟨_,rfl⟩) (λ_ _=>rfl)) (za (pv 2) (za (pv 3) zc))))))))),?_⟩
 refine⟨_,rfl,rfl,_,rfl,?_⟩;rw[zcO];unfold zaw at q;by_cases z:i=2
 ·refine ifT (decide_eq_true z) ?_;refine⟨_,rfl,p,_,_,_,rfl,rfl,et,rfl,_,rfl,p,_,_,_,rfl,rfl,et,rfl,_,rfl,_,rfl,p,_,_,_,rfl,rfl,et,rfl,_,rfl,szl (show 5<=1000 by decide),λp' hp'=>?_⟩;refine q p' _ (zv (Same.refl H) hp') ?_;rw[if_pos z];exact(RepL.cons rk (.cons rw' (.cons (.int _) (.cons (.int _) (.cons (.int _) .nil))))).new hp'
 ·refine ifF (Je z) ?_;refine⟨_,rfl,p,_,_,_,rfl,rfl,et,rfl,_,rfl,p,_,_,_,rfl,rfl,et,rfl,_,rfl,p,_,_,_,rfl,rfl,et,rfl,_,rfl,_,rfl,szl (show 5<=1000 by decide),λp' hp'=>?_⟩;refine q p' _ (zv (Same.refl H) hp') ?_;rw[if_neg z];exact(RepL.cons rk (.cons rw' (.cons (.int _) (.cons (.int _) (.cons (.int _) .nil))))).new hp'
def zpu (I:VI C VR)(D:Dfn K mg "way_to" zfE ["vault","root","key"]) (zbt:FnX P w K mg base "node_beneath" 4 ["vault","root","count"] (zhK VR CN CB CC)) (zcR:Fn P w K mg base "side_of" 21 ["node","key"] zea) (zaM:mg "KEY" =some (.int 0 t1)) (zU:mg "COUNT" =some (.int 4 t5)) (zaT:mg "BENEATH_NONE" =some (.int 301 t7)):
  FnX P w K mg base "way_to" 22 ["vault","root","key"] (zjU VR CN CB CC):=by
 refine D.okX (k:=21) zcH (λvs H Q E h=>?_) (λf cdv A outer s H vs Q E hr h=>?_)
 ·obtain⟨a,D,s,n,x,vx,rfl,_⟩:=h;rfl
 obtain⟨a,D,s,n,x,vx,rfl,vs,rx,dx,h⟩:=h;refine⟨_,(zb (zu (i:=3) zcH.nd rfl (Or.inl rfl) (za0 zc))
 (zb (zu (i:=4) zcH.nd rfl (Or.inl rfl) (zx (v:=.int 301) (by rfl) zaT ⟨_,rfl⟩))
 (zb (ziG PassesOwn.leaving (zB zee (pv 1) zo (zA _))
 (zb (zu (i:=5) zcH.nd rfl (Or.inl rfl) (zaP zbt hr (by omega) (by rfl) zL (za (pv 0) (za (pv 1) (za (pv 4) zc)))))
 (zb (zax (zhi PySem.F.plainAttrs_list PySem.F.slot_list_append PySem.F.type_list_append zca (pv 3) (za (pv 5) zc)))
 (zb (zN (zB (zfK hr) (zH zI (pv 5) (zx (v:=.int 0) (by rfl) zaM ⟨_,rfl⟩) (λ_ _=>rfl)) (pv 2) (zA _))
 (zd (zq (pv 3)))
 zy)
 (zb (zu (i:=1) zcH.nd rfl (Or.inl rfl) (zH zI (pv 5) (zK zcR hr (by omega) (by rfl) (za (pv 5) (za (pv 2) zc))) (λ_ _=>rfl)))
 (zd (zu (i:=4) zcH.nd rfl (Or.inl rfl) (zH zI (pv 5) (zx (v:=.int 4) (by rfl) zU ⟨_,rfl⟩) (λ_ _=>rfl)))))))))
 (zd (zq (pv 3)))))),?_⟩
 refine⟨szl (show 0<=1000 by decide),λpw hpw=>?_⟩;have s0:=zv (o:=.lst []) (Same.refl H) hpw;have e0:upd H pw (.lst []) pw=some (.lst []):=zg;generalize upd H pw (.lst [])=H0 at s0 e0;refine⟨λm σ H'=>∃(s1:Vst) (n c:Int) (done:List Nd) (ws:QQ) (k5:Option V),(wayP x m n c).wp s1 (λrest s'=>OutQ VR a D WayR H Q (done++rest) s') (OutE VR CN CB CC a D H E)/\1<=c/\c<=(m:Int)/\done.length+m<=301/\σ=[some (.ref a),some (.int n),some vx,some (.ref pw),some (.int c),k5]/\Frm D H H'/\VR H' a D s1/\H' pw=some (.lst ws)/\RepL H' (done.map Nd.th) ws/\(∀nd∈done,Good nd.th),⟨301,s,n,301,[],[],_,h,by decide,by decide,by decide,rfl,Frm.of s0,I.same vs s0,e0,.nil,λnd z=>by cases z⟩,?_⟩;clear h;rintro m σ H1 ⟨s1,n,c,done,ws,k5,h,hc1,hcm,hdm,rfl,f1,vs1,e1,r1,gd⟩;refine⟨_,rfl,rfl,_,rfl,?_⟩;rw[zcO];obtain⟨m,rfl⟩:∃j,m=j+1:=⟨m - 1,by omega⟩;unfold wayP at h;by_cases hn:n=0
 ·rw[if_pos hn] at h;refine ifF (by rw[decide_eq_true hn];rfl) ⟨_,rfl,h _ H1 f1 vs1 ⟨pw,ws,rfl,e1,?_,?_,?_⟩⟩
  ·rw[List.append_nil];exact r1
  ·rw[List.append_nil];exact gd
  ·rw[List.append_nil];omega
 rw[if_neg hn,Pg.wp_bind] at h;refine ifT (by rw[Je hn];rfl) ⟨_,fun σ' H' h=>h,?_⟩;refine⟨_,rfl,_,rfl,_,rfl,a,D,s1,n,c,rfl,vs1,?_⟩;have hb:(benP n c).wp s1 (λnd s'=>(1<=nd.c/\nd.c < c)/\(if nd.k=x then Pg.ret [nd] else(wayP x m (kidI nd x) nd.c).bind λns=>.ret (nd::ns)).wp s' (λrest s'=>OutQ VR a D WayR H Q (done++rest) s') (OutE VR CN CB CC a D H E)) (OutE VR CN CB CC a D H E):=zk1 h;refine Pg.wp_mono (λnd s2 h2 v H2 f2 vs2 rn=>?_) (OutE.on f1) hb;obtain⟨⟨c1,c2⟩,h2⟩:=h2;obtain⟨rn,gn⟩:=rn;obtain⟨p,vk,vw,rfl,ea,rk,rw'⟩:=zab rn;have gd':∀nd'∈done++ [nd],Good nd'.th:=λnd' z=>by
  rcases List.mem_append.mp z with z | z
  ·exact gd nd' z
  ·rw[Ji.mp z];exact gn
 have e2:=I.lst vs1 f2 e1;have hlw:ws.length=done.length:=by rw[r1.len,List.length_map]
 refine⟨_,rfl,.inl ⟨rfl,_,SqL.of e2⟩,_,rfl,pw,ws,_,rfl,rfl,e2,Jg (show ws.length < 1000 by omega) (szl (Jb _)),?_⟩;have tk1:Tups H2 (upd H2 pw (.lst (ws++ [.ref p]))):=Tups.upd λxs z=>by rw[e2] at z;cases z
 have e3:upd H2 pw (.lst (ws++ [.ref p])) pw=some (.lst (ws++ [.ref p])):=zg;have f3:Frm D H (upd H2 pw (.lst (ws++ [.ref p]))):=zk7 (f1.trans f2) hpw;have vs3:VR (upd H2 pw (.lst (ws++ [.ref p]))) a D s2:=I.nl vs2 (NL.lst e2);have r3:RepL (upd H2 pw (.lst (ws++ [.ref p]))) ((done++ [nd]).map Nd.th) (ws++ [.ref p]):=by rw[List.map_append];exact((r1.keep (I.tups vs1 f2)).keep tk1).snoc (rn.keep tk1)
 have rn3:=rn.keep tk1;have ea3:=tk1 _ _ ea;have rk3:=rk.keep tk1;have rx3:=(rx.keep ((I.tups vs (f1.trans f2)).trans tk1));generalize upd H2 pw (.lst (ws++ [.ref p]))=H3 at tk1 e3 f3 vs3 r3 rn3 ea3 rk3 rx3;have et:SqT K H3 p _:=SqT.of ea3;have kd:=(zfB gn).1;refine⟨_,rfl,p,_,_,_,rfl,rfl,et,rfl,_,rfl,nd.k,x,rk3,rx3,by omega,_,rfl,?_⟩;by_cases ek:nd.k=x
 ·rw[if_pos ek] at h2;exact ifT (zjZ ek) ⟨_,rfl,h2 _ H3 f3 vs3 ⟨pw,_,rfl,e3,r3,gd',by rw[List.length_append];show done.length+1<=301;omega⟩⟩
 ·rw[if_neg ek,Pg.wp_bind] at h2;refine ifF (zn0 ek) ?_;refine⟨_,rfl,_,rfl,_,rfl,_,_,nd,x,rfl,rn3,rx3,kd,λH4 s4=>?_⟩;have et4:SqT K H4 p _:=SqT.of (s4 _ _ ea3);have ix:atI [vk,vw,.int nd.l,.int nd.r,.int nd.c] (zc6 nd.k x)=some (.int (kidI nd x)):=by
   unfold zc6 kidI;by_cases y:zh nd.k x=true
   ·rw[if_pos y,if_pos y];rfl
   ·rw[if_neg y,if_neg y];rfl
  refine⟨p,_,_,_,rfl,rfl,et4,ix,?_⟩;refine⟨_,rfl,p,_,_,_,rfl,rfl,et4,rfl,?_⟩;refine⟨m,Nat.lt_succ_self m,s2,_,_,done++ [nd],_,_,Pg.wp_mono (λns s' z=>?_) (λ_ _ z=>z) h2,c1,by omega,by rw[List.length_append];show done.length+1+m<=301;omega,rfl,f3.trans (Frm.of s4),I.same vs3 s4,s4 _ _ e3,r3.keep (Same.tups s4),gd'⟩;have z':OutQ VR a D WayR H Q (done++(nd::ns)) s':=z;rw[List.append_assoc];exact z'
def zm3 (D:Dfn K mg "ends_at" zf8 ["way","key"]) (zaM:mg "KEY" =some (.int 0 t1)) (zR:mg "len" =none):Fn P w K mg base "ends_at" 1 ["way","key"] (zfN K):=by
 refine D.ok (k:=0) zl3 (λvs H Q E h=>?_) (λf cdv A outer s H vs Q E hr h=>?_)
 ·obtain⟨pw,ws,ns,x,vx,rfl,_⟩:=h;rfl
 obtain⟨pw,ws,ns,x,vx,rfl,hs,rw,kt,rx,q⟩:=h;have hl:ws.length=ns.length:=by rw[rw.len,List.length_map]
 refine⟨_,(zd (zq (zdW (zaF zm0 (zF (zT) (by rfl) zR (by rfl) (za (pv 0) zc)) zo (zA _)) (zdV (zaF (zfK hr) (zH zI (zH zaL (pv 0) (zcN zbB zo) (λ_ _=>rfl)) (zx (v:=.int 0) (by rfl) zaM ⟨_,rfl⟩) (λ_ _=>rfl)) (pv 1) (zA _)))))),?_⟩;refine⟨_,rfl,pw,_,rfl,.inl hs,_,_,rfl,rfl,_,rfl,?_⟩;rcases List.eq_nil_or_concat ns with e | ⟨pre,nd,e⟩
 ·subst e;refine ifF (by show decide ((0:Int) < ((ws.length:Nat):Int))=false;rw[hl];rfl) q
 ·rw[List.concat_eq_append] at e;subst e;have kd:=(zfB (kt nd (by simp))).1;rw[List.map_append] at rw;obtain⟨us,v,rfl,rus,rn⟩:=rw.unsnoc;obtain⟨p,vk,vw,rfl,ea,rk,_⟩:=zab rn;refine ifT (decide_eq_true (show(0:Int) < (((us++ [V.ref p]).length:Nat):Int) by simp only[List.length_append,List.length_singleton];omega)) ?_;have q':Q (.bl (eqT nd.k x)) H:=by unfold zfv at q;rw[List.getLast?_concat] at q;exact q
  exact⟨_,rfl,_,rfl,pw,_,_,_,rfl,rfl,hs,zeh,p,_,_,_,rfl,rfl,SqT.of ea,rfl,_,rfl,nd.k,x,rk,rx,by omega,q'⟩
end
end Pv
namespace L2
open PySem PySem.Spec PyProof.Rows
def Ite (K:QA)(p:Addr)(xs:QQ):It:=
 ⟨λn H=>SqL K H p xs/\n < xs.length,λn H v H'=>∃(T:Addr) (x:V),H T=none/\xs[n]? =some x/\v=.ref T/\H'=upd H T (.tup [.int n,x]),λn H=>SqL K H p xs/\xs.length<=n⟩
def zl7 {P:Program}{w:World}{K:QA}{elts:List Expr}{x1:Nat}{tpos:Pos}{e i p:Addr}{xs:QQ}(D:e≠i):
  Turn P w K (.Tuple elts x1 tpos) (Ite K p xs) [e,i] e (λn h=>(∃old,IsEnum h e i (n:Int) old)/\h.IsListIter i p n) where
 mem:=by simp
 obj:=λn h st b hb=>by
  obtain⟨⟨old,he⟩,⟨r1,e1,_,d1⟩⟩:=st;simp only[List.mem_cons,List.not_mem_nil,or_false] at hb;rcases hb with rfl | rfl
  ·exact⟨_,he,λv z=>by cases z⟩
  ·exact⟨_,e1,λv z=>by rw[d1] at z;cases z⟩
 keep:=λn h h' st kp=>by obtain⟨⟨old,he⟩,⟨r1,e1,x1⟩⟩:=st;exact⟨⟨old,kp e (by simp) _ he⟩,⟨r1,kp i (by simp) _ e1,x1⟩⟩
 item:=by
  intro X hP hw hK hc n pins s σ H E I hf st hg;subst hP hw hK;obtain⟨hp,hn⟩:=hg;obtain⟨⟨old,he⟩,hi⟩:=st;obtain⟨its,r1,T1,z1⟩:=I.list hp;have hx:xs[n]? =some xs[n]:=List.getElem?_eq_getElem hn;obtain⟨v1,e1,q1⟩:=r1.get hx;have fe:=hf e (by simp);have fi:=hf i (by simp);refine wpAny_pyNext_enum_item he hi T1.isList (x:=v1) (by simpa using e1) D λg eo ig new sz up=>?_;have hT:H s.heap.objs.size=none:=I.hok.fresh (Jb _);have inch:∀{b:Addr},H b≠none->b≠e/\b≠i:=λ{b} h=>⟨λz=>h (by rw[z];exact fe.1),λz=>h (by rw[z];exact fi.1)⟩;have hok:HOk X.prog X.w (upd H s.heap.objs.size (.tup [.int n,xs[n]])) g:=λb u e=>by
   by_cases hb:b=s.heap.objs.size
   ·subst hb;rw[zg] at e;cases e;refine⟨by simp only[List.length_cons,List.length_nil];rw[sizeLine_eq];decide,[.int n s.toks,v1],.cons ⟨_,rfl⟩ (.cons q1 .nil),⟨_,new,rfl,_,rfl⟩⟩
   ·rw[zk hb] at e;refine(I.hok b u e).stay (λc r hc q=>?_) (λc q=>by rw[zk (zm q hT)];exact q) λc ys q=>by rw[zk (zm q hT)];exact q
    have hne:H c≠none:=by
     rcases hc with rfl | hc
     ·rw[e];intro z;cases z
     ·rw[hc];intro z;cases z
    obtain⟨c1,c2⟩:=inch hne;exact up c r c1 c2 q
  have I1:Inv X pins σ (upd H s.heap.objs.size (.tup [.int n,xs[n]])) {s with heap:=g,toks:=s.toks+1}:=by
   refine I.step (g':=s.gens) (d':=s.drawn) (t':=s.toks+1) (ch:=[e,i]) (λb hb=>?_) (λb r _ _ hc e _=>?_) (λb r _ _ hc e _=>⟨r.slots,?_⟩) (λb r hc e hn=>?_) (λb r hc e=>⟨r,?_⟩) (λb ys e=>by rw[zk (zm e hT)];exact e)
    (λb r ys e=>by rw[zk (zm e hT)];exact e) (λb ps e=>⟨#[],by rw[zk (zm e hT),e];simp⟩) (λm hm=>?_) hok I.bare
   ·simp only[List.mem_cons,List.not_mem_nil,or_false] at hb;rcases hb with rfl | rfl
    ·exact⟨fe.2.2.2.1,fe.2.1,fe.2.2.2.2.1,fe.2.2.2.2.2⟩
    ·exact⟨fi.2.2.2.1,fi.2.1,fi.2.2.2.2.1,fi.2.2.2.2.2⟩
   ·simp only[List.mem_cons,List.not_mem_nil,or_false,not_or] at hc;exact up b r hc.1 hc.2 e
   ·simp only[List.mem_cons,List.not_mem_nil,or_false,not_or] at hc;exact up b r hc.1 hc.2 e
   ·rw[zk (Jl (Heap.lt_size e))];exact hn
   ·simp only[List.mem_cons,List.not_mem_nil,or_false,not_or] at hc;exact up b r hc.1 hc.2 e
   ·obtain⟨r,es,ep,er,d⟩:=hm;exact⟨r,es,ep,up _ r (Ne.symm fe.2.1) (Ne.symm fi.2.1) er,d⟩
  have le:e < s.heap.objs.size:=Heap.lt_size he;have hfp:∀b∈ [e,i],upd H s.heap.objs.size (.tup [.int n,xs[n]]) b=none:=λb hb=>by
   have fb:=hf b hb;have lt:b < s.heap.objs.size:=by
    obtain⟨r1,e1,_⟩:=hi;simp only[List.mem_cons,List.not_mem_nil,or_false] at hb;rcases hb with rfl | rfl
    ·exact le
    ·exact Heap.lt_size e1
   rw[zk (Jl lt)];exact fb.1
  refine⟨_,rfl,wpAny_letOwnedTupleGo_enum eo λg2 e2 s2=>?_⟩;refine⟨.ref s.heap.objs.size,_,I1.turned (it:=e) (t':=s.toks+1) (λb r hb q=>s2.extBut _ _ hb q) (hfp e (by simp)) fe.2.1 fe.2.2.2.1 fe.2.2.2.2.1 fe.2.2.2.2.2,rfl,⟨_,_,hT,hx,rfl,rfl⟩,⟨⟨_,e2⟩,ig.extBut s2.extBut (Ne.symm D)⟩,hfp⟩
 done:=by intro X hP hw hK hc n pins s σ H E I hf st hg;subst hP hw hK;obtain⟨hp,hn⟩:=hg;obtain⟨⟨old,he⟩,hi⟩:=st;obtain⟨its,r1,T1,z1⟩:=I.list hp;have fi:=hf i (by simp);have l1:=r1.length;refine wpAny_pyNext_enum_end (I.ok.hd hc) he hi T1.isList (by simp;omega) λg up=>⟨rfl,?_⟩;exact I.turned (it:=i) (t':=s.toks) up fi.1 fi.2.1 fi.2.2.2.1 fi.2.2.2.2.1 fi.2.2.2.2.2
 self:=λ_ _ _ _ _ st h=>by obtain⟨⟨old,he⟩,hi⟩:=st;exact wpAny_pyIter_enum he h
section
variable {X:Cx}
def zrG (K:QA)(ta:TA):TI:=fun σ H R=>ta σ H λvs H1=>∃(p:Addr) (xs:QQ),vs=[.ref p]/\SqL K H1 p xs/\R (Ite K p xs) H1
def zpc {elts:List Expr}{x1:Nat}{tpos:Pos}{a:Expr}{ta:TA}{p pos:Pos}(hg:Gl X "enumerate") (hm:X.mg "enumerate" =none) (ha:PA X [a] ta) (hs:starEach [a] X.env=[(false,eval a X.env)]:=by rfl):
  PI X (.Tuple elts x1 tpos) (.Call (.Name "enumerate" p) [a] [] pos) (zrG X.K ta):=by
 intro pins s σ H R I h;refine Call_ (zda I hg hm (u:=.type "enumerate") (by rfl) (PyProof.Rows.callWith_type1 (thn (ha pos pins s σ H _ I h) λus s1 ⟨vs,H1,I1,r1,q1⟩=>?_) (by rw[hs];rfl) rfl));obtain⟨p1,xs,rfl,hp,q⟩:=q1;obtain⟨u,rfl,ru⟩:=Vals.one r1;cases (show u=Value.ref _ from ru);obtain⟨its,r1,T1,z1⟩:=I1.list hp;refine call_enumerate_list T1.isList λg eg ig sz up=>wpAny_pyIter_enum eg ?_;refine⟨_,_,_,_,H1,rfl,I1.kept (t':=s1.toks) up,zl7 (show s1.heap.objs.size+1≠s1.heap.objs.size by omega),⟨⟨_,eg⟩,ig⟩,λb hb=>?_,q⟩;have hb':s1.heap.objs.size<=b:=by
  simp only[List.mem_cons,List.not_mem_nil,or_false] at hb;rcases hb with rfl | rfl
  ·exact JC _ _
  ·exact Jb _
 exact I1.fpOk hb' (I1.hok.fresh hb')
def znN {K:QA}{p:Addr}{xs:QQ}{g:TG}{tb:TS}{D:Ends}{σ:St}{H:Hp}(Pv:Nat->St->Hp->Prop)(h0:Pv 0 σ H)(hl:∀i σ H,Pv i σ H->SqL K H p xs)
  (hs:∀i x T σ H,xs[i]? =some x->H T=none->Pv i σ H->g (.ref T) σ (upd H T (.tup [.int i,x])) fun σ2 H2=>tb {D with nx:=Pv (i+1),ct:=Pv (i+1),bk:=D.nx} σ2 H2) (hd:∀σ H,Pv xs.length σ H->D.nx σ H):
  ∃W:Nat->Nat->St->Hp->Prop,(∃m,W 0 m σ H)/\∀i m σ H,W i m σ H->
   ((Ite K p xs).stop i H/\D.nx σ H)\/((Ite K p xs).go i H/\∃N:St->Hp->Prop,(∀σ' H',N σ' H'->∃m',m' < m/\W (i+1) m' σ' H')/\∀x H',(Ite K p xs).yld i H x H'->g x σ H' fun σ2 H2=>tb {D with nx:=N,ct:=N,bk:=D.nx} σ2 H2):=by
 refine⟨λi m σ H=>m=xs.length - i/\i<=xs.length/\Pv i σ H,⟨_,rfl,Nat.zero_le _,h0⟩,?_⟩;rintro i m σ H ⟨rfl,hi,p⟩;have q:=hl i σ H p;by_cases hlt:i < xs.length
 ·refine .inr ⟨⟨q,hlt⟩,Pv (i+1),fun σ' H' p'=>⟨_,by omega,rfl,hlt,p'⟩,λx H' y=>?_⟩;obtain⟨T,a,hT,e1,rfl,rfl⟩:=y;exact hs i a T σ H e1 hT p
 ·have e:i=xs.length:=by omega
  subst e;exact .inl ⟨⟨q,Jb _⟩,hd σ H p⟩
end
end L2
namespace Pv
open PySem L2
abbrev zk2:Stmt:=top 53
def zjv:zr ["vault","way","key","root","more","node"] ["vault","way","key","root","more"] (ze zk2):=L2.fsc (by decide+kernel)
abbrev zfC:Stmt:=top 54
def za5:zr ["vault","way","key","root","count","left","left_count","right","right_count","node"] ["vault","way","key","root","count"] (ze zfC):=L2.fsc (by decide+kernel)
abbrev ze9:Stmt:=top 55
def zd2:zr ["way","key","number","node"] ["way","key"] (ze ze9):=L2.fsc (by decide+kernel)
abbrev sput:Stmt:=top 56
def zfx:zr ["vault","root","key","worth","way","own","new","place","trees","count"] ["vault","root","key","worth"] (ze sput):=L2.fsc (by decide+kernel)
theorem RepL.take {H:Hp}:∀{ts:List Th} {vs:QQ} (n:Nat),RepL H ts vs->RepL H (ts.take n) (vs.take n)
 | _,_,0,_=>by rw[List.take_zero,List.take_zero];exact .nil
 | _,_,n+1,.nil=>by rw[List.take_nil,List.take_nil];exact .nil
 | _,_,n+1,.cons h r=>.cons h (RepL.take n r)
theorem RepL.drop {H:Hp}:∀{ts:List Th} {vs:QQ} (n:Nat),RepL H ts vs->RepL H (ts.drop n) (vs.drop n)
 | _,_,0,r=>r
 | _,_,n+1,.nil=>by rw[List.drop_nil,List.drop_nil];exact .nil
 | _,_,n+1,.cons h r=>RepL.drop n r
theorem zrp {xs:QQ}{n:Nat}(h:n<=xs.length):cutV xs none (some (n:Int))=xs.take n:=by
 unfold cutV;rw[HT.sIx_none,HT.sIx_nat,Nat.min_eq_left h]
 rfl
theorem zoW {xs:QQ}{n:Nat}(h:n<=xs.length):cutV xs (some (n:Int)) none=xs.drop n:=by unfold cutV;rw[HT.sIx_none,HT.sIx_nat,Nat.min_eq_left h];exact List.take_of_length_le (by rw[List.length_drop];exact Jb _)
theorem zkV {xs:QQ}{n:Nat}(h:xs.length=n+1):cutV xs none (some (-1))=xs.take n:=by unfold cutV;rw[HT.sIx_none];show(xs.drop 0).take (HT.sIx xs.length xs.length (some (-1)) - 0)=_;rw[List.drop_zero,Nat.sub_zero,h];congr 1;unfold HT.sIx;simp;omega
def joinM {c:Bool}{A B N:Prop}(a:c=true->N->A)(b:c=false->N->B)(rest:N):if c=true then A else B:=ifB (λh=>a h rest) (λh=>b h rest)
def zf6 {nd:Nd}(g:Good nd.th):Good nd.k/\Good nd.w:=by have h1:max (dep nd.k) (max (dep nd.w) (max 0 (max 0 (max 0 0))))+1<=dep nd.th:=Jb _;have h4:=g.dp;have h2:1+(nodes nd.k+(nodes nd.w+(1+(1+(1+0)))))<=80:=g.nd;have h3:Wf nd.k/\Wf nd.w:=⟨g.wf.2.1,g.wf.2.2.1⟩;exact⟨⟨h3.1,by omega,by omega⟩,⟨h3.2,by omega,by omega⟩⟩
def zb3 (x:Th)(more:Int):List Nd->Int->Pg Int
 | [],n=>.ret n
 | nd::r,n=>.lay (zaw nd (zc6 nd.k x) n (nd.c+more)).th (zb3 x more r (zj (zaw nd (zc6 nd.k x) n (nd.c+more)).th))
def zfn (x:Th):List Nd->Int->Int->Int->Int->Pg (Int ×Int)
 | [],l,_,r,_=>.ret (l,r)
 | nd::t,l,lc,r,rc=>if zh nd.k x=true then .lay (zaw nd 3 l (nd.c - rc)).th (zfn x t (zj (zaw nd 3 l (nd.c - rc)).th) (nd.c - rc) r rc)
  else .lay (zaw nd 2 r (nd.c - lc)).th (zfn x t l lc (zj (zaw nd 2 r (nd.c - lc)).th) (nd.c - lc))
def zbd (x:Th):List Nd->Nat
 | []=>0
 | nd::r=>if zaI x nd.k=true then 0 else zbd x r+1
theorem zhf (x:Th):∀ns:List Nd,zbd x ns<=ns.length
 | []=>Jb _
 | nd::r=>by
  unfold zbd;split
  ·exact Nat.zero_le _
  ·exact Nat.succ_le_succ (zhf x r)
def zek (ns:List Nd)(i:Nat):Int:=match ns[i]? with
 | some nd=>nd.c
 | none=>0
def putN (x wo:Th)(ns:List Nd):Pg Int:=(zfn x (ns.drop (zbd x ns)).reverse 0 0 0 0).bind λlr=>
 .lay (Nd.mk x wo lr.1 lr.2 (zek ns (zbd x ns)+1)).th (zb3 x 1 (ns.take (zbd x ns)).reverse (zj (Nd.mk x wo lr.1 lr.2 (zek ns (zbd x ns)+1)).th))
def putO (x wo:Th)(ns:List Nd)(own:Nd):Pg Int:=.lay (Nd.mk x wo own.l own.r own.c).th (zb3 x 0 ns.dropLast.reverse (zj (Nd.mk x wo own.l own.r own.c).th))
def zel (x wo:Th)(ns:List Nd):Pg Int:=match ns.getLast? with
 | none=>putN x wo ns
 | some own=>if own.k=x then putO x wo ns own else putN x wo ns
def putP (n:Int)(x wo:Th):Pg Int:=(wayP x 301 n 301).bind (zel x wo)
def zpS (H:Hp)(y:Int ×Int)(v:V):Prop:=∃p,v=.ref p/\H p=some (.tup [.int y.1,.int y.2])
def zfU (VR:VRT)(CN CB CC:Addr):Sp:=λvs H Q E=>∃(a pw:Addr) (D:QO) (s:Vst) (ws:QQ) (ns:List Nd) (x:Th) (vx:V) (n more:Int),vs=[.ref a,.ref pw,vx,.int n,.int more]/\VR H a D s/\H pw=some (.lst ws)/\RepL H (ns.map Nd.th) ws/\(∀nd∈ns,Good nd.th)/\Rep H x vx/\Out VR CN CB CC a D (zb3 x more ns.reverse n) s IntR H Q E
def ze3 (VR:VRT)(CN CB CC:Addr):Sp:=λvs H Q E=>∃(a pw:Addr) (D:QO) (s:Vst) (ws:QQ) (ns:List Nd) (x:Th) (vx:V) (n m:Int),vs=[.ref a,.ref pw,vx,.int n,.int m]/\VR H a D s/\H pw=some (.lst ws)/\RepL H (ns.map Nd.th) ws/\(∀nd∈ns,Good nd.th)/\Rep H x vx/\Out VR CN CB CC a D (zfn x ns.reverse n m 0 0) s zpS H Q E
def zgo:Sp:=λvs H Q _=>∃(pw:Addr) (ws:QQ) (ns:List Nd) (x:Th) (vx:V),vs=[.ref pw,vx]/\H pw=some (.lst ws)/\RepL H (ns.map Nd.th) ws/\(∀nd∈ns,Good nd.th)/\Good x/\Rep H x vx/\∀H',Same H H'->Q (.int (zbd x ns:Int)) H'
def zhX (VR:VRT)(CN CB CC:Addr):Sp:=λvs H Q E=>∃(a:Addr) (D:QO) (s:Vst) (n:Int) (x wo:Th) (vx vw:V),vs=[.ref a,.int n,vx,vw]/\VR H a D s/\Rep H x vx/\Good x/\Rep H wo vw/\Out VR CN CB CC a D (putP n x wo) s IntR H Q E
def zjz {α:Type}{f:α->Th}{ns:List α}{ws:QQ}{H:Hp}{j:Nat}{y:V}(r:RepL H (ns.map f) ws)(hj:j < ws.length)(hy:ws.reverse[j]? =some y):∃nd,nd∈ns/\ns.reverse.drop j=nd::ns.reverse.drop (j+1)/\Rep H (f nd) y:=by
 have hl:ws.length=ns.length:=by rw[r.len,List.length_map]
 have hr:j < ns.reverse.length:=by rw[List.length_reverse];omega
 rw[List.getElem?_reverse hj] at hy;have hn:ns[ns.length - 1 - j]? =some (ns[ns.length - 1 - j]'(by omega)):=List.getElem?_eq_getElem (by omega);refine⟨ns[ns.length - 1 - j]'(by omega),Jm _,?_,r.at (ws.length - 1 - j) _ _ hy (by rw[hl,List.getElem?_map,hn];rfl)⟩;rw[Jr hr,List.getElem_reverse]
section
variable {P:Program}{w:World}{K:QA}{mg:QB}{base:Heap}{VR:VRT}{C CC CN CB:Addr}{x:Str}{t1 t2 t3 t4 t5 t6 t7:Tok}
def zn9 (I:VI C VR)(D:Dfn K mg "hung" zk2 ["vault","way","key","root","more"]) (zcm:Mt P w K mg base (CX1 P w) C "lay" 14 ["self","thing"] (zd1 VR CC)) (c_C:Cls K C) (zbh:Fn P w K mg base "with_tree" 1 ["node","side","root","count"] zes) (zcR:Fn P w K mg base "side_of" 21 ["node","key"] zea) (zU:mg "COUNT" =some (.int 4 t5)) (zbf:mg "reversed" =none):
  FnX P w K mg base "hung" 22 ["vault","way","key","root","more"] (zfU VR CN CB CC):=by
 refine D.okX (k:=21) zjv (λvs H Q E h=>?_) (λf cdv A outer s H vs Q E hr h=>?_)
 ·obtain⟨a,pw,D,s,ws,ns,x,vx,n,more,rfl,_⟩:=h;rfl
 obtain⟨a,pw,D,s,ws,ns,x,vx,n,more,rfl,vs,ew,rw,gd,rx,h⟩:=h;have hl:ws.length=ns.length:=by rw[rw.len,List.length_map]
 refine⟨_,(zb (za1 PassesOwn.leaving rfl (zjS (by rfl) zbf (pv 1)) (zZ (i:=5) zjv.nd rfl (Or.inl rfl))
 (zd (zu (i:=3) zjv.nd rfl (Or.inl rfl) (zbw (pv 0) c_C zcm hr (by omega) zL (za (zK zbh hr (by omega) (by rfl) (za (pv 5) (za (zK zcR hr (by omega) (by rfl) (za (pv 5) (za (pv 2) zc))) (za (pv 3) (za (zG zbA (zH zI (pv 5) (zx (v:=.int 4) (by rfl) zU ⟨_,rfl⟩) (λ_ _=>rfl)) (pv 4)) zc))))) zc)))))
 (zd (zq (pv 3)))),?_⟩
 refine⟨_,rfl,pw,ws,rfl,SqL.of ew,?_⟩;refine zib (λj σ H'=>∃(s1:Vst) (n:Int) (k5:Option V),(zb3 x more (ns.reverse.drop j) n).wp s1 (OutQ VR a D IntR H Q) (OutE VR CN CB CC a D H E)/\σ=[some (.ref a),some (.ref pw),some vx,some (.int n),some (.int more),k5]/\Frm D H H'/\VR H' a D s1) ⟨s,n,_,h,rfl,Frm.refl,vs⟩ ?_ ?_ ?_
 ·rintro j σ H' ⟨s1,n,k5,_,rfl,fr,_⟩;exact SqL.of (I.lst vs fr ew)
 ·rintro j y σ H' hj hy ⟨s1,n,k5,h,rfl,fr,vs1⟩;obtain⟨nd,hm,ed,rl⟩:=zjz rw hj hy;have gn:=gd nd hm;rw[ed] at h;obtain⟨h0,gN,h1,h2⟩:=h;have tk:=I.tups vs fr;have rl':=rl.keep tk;obtain⟨p,vk,vw,rfl,ea,rk,rw'⟩:=zab rl';obtain⟨dx,fs,eo,_,n2⟩:=I.ins vs1;refine⟨_,rfl,a,dx,fs,rfl,eo,n2,_,rfl,_,rfl,_,rfl,_,_,nd,x,rfl,rl',rx.keep tk,(zfB gn).1,λH1 s1'=>?_⟩;refine⟨_,rfl,_,rfl,p,_,_,_,rfl,rfl,SqT.of (s1' _ _ ea),rfl,_,rfl,_,_,rfl,rfl,_,nd,_,_,_,rfl,rl'.keep (Same.tups s1'),λp2 H2 s2 r2=>?_⟩;have s12:Same H' H2:=λb o e=>s2 b o (s1' b o e);have f12:=fr.trans (Frm.of s12);exact⟨a,D,s1,_,_,rfl,I.same vs1 s12,h0,r2,gN,λH3 st f3 vs3=>⟨_,_,_,h1 st,rfl,f12.trans f3,vs3⟩,λu x' v1 v2 H3 st f3=>h2 u st x' v1 v2 H3 (f12.trans f3)⟩
 ·rintro σ H' ⟨s1,n,k5,h,rfl,fr,vs1⟩;rw[List.drop_of_length_le (by rw[List.length_reverse];omega)] at h;exact⟨_,rfl,h _ H' fr vs1 rfl⟩
def zjm (I:VI C VR)(D:Dfn K mg "parted" zfC ["vault","way","key","root","count"]) (zcm:Mt P w K mg base (CX1 P w) C "lay" 14 ["self","thing"] (zd1 VR CC)) (c_C:Cls K C) (zbh:Fn P w K mg base "with_tree" 1 ["node","side","root","count"] zes) (zcR:Fn P w K mg base "side_of" 21 ["node","key"] zea) (zU:mg "COUNT" =some (.int 4 t5)) (zao:mg "LEFT" =some (.int 2 t3)) (zaa:mg "RIGHT" =some (.int 3 t4)) (zbf:mg "reversed" =none):
  FnX P w K mg base "parted" 22 ["vault","way","key","root","count"] (ze3 VR CN CB CC):=by
 refine D.okX (k:=21) za5 (λvs H Q E h=>?_) (λf cdv A outer s H vs Q E hr h=>?_)
 ·obtain⟨a,pw,D,s,ws,ns,x,vx,n,m,rfl,_⟩:=h;rfl
 obtain⟨a,pw,D,s,ws,ns,x,vx,n,m,rfl,vs,ew,rw,gd,rx,h⟩:=h;have hl:ws.length=ns.length:=by rw[rw.len,List.length_map]
 refine⟨_,(zb (zu (i:=5) za5.nd rfl (Or.inl rfl) (pv 3))
 (zb (zu (i:=6) za5.nd rfl (Or.inl rfl) (pv 4))
 (zb (zu (i:=7) za5.nd rfl (Or.inl rfl) zo)
 (zb (zu (i:=8) za5.nd rfl (Or.inl rfl) zo)
 (zb (za1 PassesOwn.leaving rfl (zjS (by rfl) zbf (pv 1)) (zZ (i:=9) za5.nd rfl (Or.inl rfl))
 (zd (zN (zB zb0 (zK zcR hr (by omega) (by rfl) (za (pv 9) (za (pv 2) zc))) (zx (v:=.int 3) (by rfl) zaa ⟨_,rfl⟩) (zA _))
 (zb (zu (i:=6) za5.nd rfl (Or.inl rfl) (zG zeS (zH zI (pv 9) (zx (v:=.int 4) (by rfl) zU ⟨_,rfl⟩) (λ_ _=>rfl)) (pv 8)))
 (zd (zu (i:=5) za5.nd rfl (Or.inl rfl) (zbw (pv 0) c_C zcm hr (by omega) zL (za (zK zbh hr (by omega) (by rfl) (za (pv 9) (za (zx (v:=.int 3) (by rfl) zaa ⟨_,rfl⟩) (za (pv 5) (za (pv 6) zc))))) zc)))))
 (zb (zu (i:=8) za5.nd rfl (Or.inl rfl) (zG zeS (zH zI (pv 9) (zx (v:=.int 4) (by rfl) zU ⟨_,rfl⟩) (λ_ _=>rfl)) (pv 6)))
 (zd (zu (i:=7) za5.nd rfl (Or.inl rfl) (zbw (pv 0) c_C zcm hr (by omega) zL (za (zK zbh hr (by omega) (by rfl) (za (pv 9) (za (zx (v:=.int 2) (by rfl) zao ⟨_,rfl⟩) (za (pv 7) (za (pv 8) zc))))) zc))))))))
 (zd (zq (zbj (za (pv 5) (za (pv 7) zc)))))))))),?_⟩
 refine⟨_,rfl,_,rfl,_,rfl,pw,ws,rfl,SqL.of ew,?_⟩;refine zib (λj σ H'=>∃(s1:Vst) (l lc r rc:Int) (k9:Option V),(zfn x (ns.reverse.drop j) l lc r rc).wp s1 (OutQ VR a D zpS H Q) (OutE VR CN CB CC a D H E)/\σ=[some (.ref a),some (.ref pw),some vx,some (.int n),some (.int m),some (.int l),some (.int lc),some (.int r),some (.int rc),k9]/\Frm D H H'/\VR H' a D s1) ⟨s,n,m,0,0,_,h,rfl,Frm.refl,vs⟩ ?_ ?_ ?_
 ·rintro j σ H' ⟨s1,l,lc,r,rc,k9,_,rfl,fr,_⟩;exact SqL.of (I.lst vs fr ew)
 ·rintro j y σ H' hj hy ⟨s1,l,lc,r,rc,k9,h,rfl,fr,vs1⟩;obtain⟨nd,hm,ed,rl⟩:=zjz rw hj hy;have gn:=gd nd hm;rw[ed] at h;unfold zfn at h;have tk:=I.tups vs fr;have rl':=rl.keep tk;obtain⟨p,vk,vw,rfl,ea,rk,rw'⟩:=zab rl';refine⟨_,rfl,_,rfl,_,_,nd,x,rfl,rl',rx.keep tk,(zfB gn).1,λH1 s1'=>⟨rfl,_,rfl,?_⟩⟩;rw[zcO];have vs2:=I.same vs1 s1';obtain⟨dx,fs,eo,_,n2⟩:=I.ins vs2;by_cases c:zh nd.k x=true
  ·have e3:zc6 nd.k x=3:=if_pos c;rw[if_pos c] at h;obtain⟨h0,gN,h1,h2⟩:=h;refine ifT (decide_eq_true e3) ?_;refine⟨_,rfl,p,_,_,_,rfl,rfl,SqT.of (s1' _ _ ea),rfl,_,rfl,_,_,rfl,rfl,?_⟩;refine⟨_,rfl,a,dx,fs,rfl,eo,n2,_,rfl,_,rfl,_,rfl,_,nd,_,_,_,rfl,rl'.keep (Same.tups s1'),λp2 H2 s2 r2=>?_⟩;have f12:Frm D H H2:=fr.trans ((Frm.of s1').trans (Frm.of s2));exact⟨a,D,s1,_,_,rfl,I.same vs2 s2,h0,r2,gN,λH3 st f3 vs3=>⟨_,_,_,_,_,_,h1 st,rfl,f12.trans f3,vs3⟩,λu x' v1 v2 H3 st f3=>h2 u st x' v1 v2 H3 (f12.trans f3)⟩
  ·have e3:zc6 nd.k x=2:=if_neg c;rw[if_neg c] at h;obtain⟨h0,gN,h1,h2⟩:=h;refine ifF (Je (by rw[e3];decide)) ?_;refine⟨_,rfl,p,_,_,_,rfl,rfl,SqT.of (s1' _ _ ea),rfl,_,rfl,_,_,rfl,rfl,?_⟩;refine⟨_,rfl,a,dx,fs,rfl,eo,n2,_,rfl,_,rfl,_,rfl,_,nd,_,_,_,rfl,rl'.keep (Same.tups s1'),λp2 H2 s2 r2=>?_⟩;have f12:Frm D H H2:=fr.trans ((Frm.of s1').trans (Frm.of s2));exact⟨a,D,s1,_,_,rfl,I.same vs2 s2,h0,r2,gN,λH3 st f3 vs3=>⟨_,_,_,_,_,_,h1 st,rfl,f12.trans f3,vs3⟩,λu x' v1 v2 H3 st f3=>h2 u st x' v1 v2 H3 (f12.trans f3)⟩
 ·rintro σ H' ⟨s1,l,lc,r,rc,k9,h,rfl,fr,vs1⟩;rw[List.drop_of_length_le (by rw[List.length_reverse];omega)] at h;refine⟨_,rfl,_,rfl,szl (show 2<=1000 by decide),λp hp=>?_⟩;have s2:=zv (o:=.tup [.int l,.int r]) (Same.refl H') hp;exact h _ _ (fr.trans (Frm.of s2)) (I.same vs1 s2) ⟨p,rfl,zg⟩
def zlV (D:Dfn K mg "place_in" ze9 ["way","key"]) (zeH:Fn P w K mg base "above" 21 ["key","other"] zfS) (zaM:mg "KEY" =some (.int 0 t1)) (zdw:mg "enumerate" =none) (zR:mg "len" =none):Fn P w K mg base "place_in" 22 ["way","key"] zgo:=by
 refine D.ok (k:=21) zd2 (λvs H Q E h=>?_) (λf cdv A outer s H vs Q E hr h=>?_)
 ·obtain⟨pw,ws,ns,x,vx,rfl,_⟩:=h;rfl
 obtain⟨pw,ws,ns,x,vx,rfl,ew,rw,gd,gx,rx,q⟩:=h;have hl:ws.length=ns.length:=by rw[rw.len,List.length_map]
 refine⟨_,(zb (za1 PassesOwn.never rfl (zpc (by rfl) zdw (za (pv 0) zc)) (zjp rfl (zcF (zZ (i:=2) zd2.nd rfl (Or.inl rfl)) (zcF (zZ (i:=3) zd2.nd rfl (Or.inl rfl)) zia)))
 (zd (zN (zah (zK zeH hr (by omega) (by rfl) (za (pv 1) (za (zH zI (pv 3) (zx (v:=.int 0) (by rfl) zaM ⟨_,rfl⟩) (λ_ _=>rfl)) zc))))
 (zd (zq (pv 2)))
 zy)))
 (zd (zq (zF (zT) (by rfl) zR (by rfl) (za (pv 0) zc))))),?_⟩
 refine⟨_,rfl,pw,ws,rfl,SqL.of ew,?_⟩;refine znN (λi σ H'=>∃k2 k3,σ=[some (.ref pw),some vx,k2,k3]/\Same H H'/\zbd x ns=i+zbd x (ns.drop i)) ⟨_,_,rfl,Same.refl _,by rw[Nat.zero_add];rfl⟩ ?_ ?_ ?_
 ·rintro i σ H' ⟨k2,k3,rfl,sm,_⟩;exact SqL.of (sm _ _ ew)
 ·rintro i y U σ H' hy hU ⟨k2,k3,rfl,sm,hp⟩;have hi:i < ws.length:=(List.getElem?_eq_some_iff.mp hy).1;have hn:ns[i]? =some (ns[i]'(by omega)):=List.getElem?_eq_getElem (by omega);have rl:=rw.at i y _ hy (by rw[List.getElem?_map,hn];rfl);have gn:=gd _ (Jm (show i < ns.length by omega));have ed:ns.drop i=ns[i]'(by omega)::ns.drop (i+1):=Jr (by omega);generalize ns[i]'(by omega)=nd at rl gn ed;have sm':Same H (upd H' U (.tup [.int i,y])):=zv sm hU;have eU:upd H' U (.tup [.int i,y]) U=some (.tup [.int i,y]):=zg;generalize upd H' U (.tup [.int i,y])=H1 at sm' eU;obtain⟨p,vk,vw,rfl,ea,rk,_⟩:=zab rl;refine⟨U,_,rfl,SqT.of eU,rfl,_,_,rfl,_,_,rfl,rfl,?_⟩;refine⟨_,rfl,_,rfl,p,_,_,_,rfl,rfl,SqT.of (sm' _ _ ea),rfl,x,nd.k,_,_,rfl,rx.keep (Same.tups sm'),rk.keep (Same.tups sm'),gx,(zf6 gn).1,λH2 s2=>⟨_,rfl,?_⟩⟩;have s02:Same H H2:=λb o e=>s2 b o (sm' b o e);have e0:zbd x (ns.drop i)=if zaI x nd.k=true then 0 else zbd x (ns.drop (i+1))+1:=by rw[ed];rfl
  cases z:zaI x nd.k with
  | true=>rw[if_pos z] at e0;refine ifT rfl ⟨_,rfl,?_⟩;have:=q H2 s02;rw[hp,e0] at this;exact this
  | false=>rw[if_neg (by rw[z];exact Jf)] at e0;exact ifF rfl ⟨_,_,rfl,s02,by omega⟩
 ·rintro σ H' ⟨k2,k3,rfl,sm,hp⟩;refine⟨_,rfl,pw,_,rfl,.inl (SqL.of (sm _ _ ew)),?_⟩;rw[List.drop_of_length_le (by omega)] at hp;have:=q H' sm;rw[hp] at this;exact this
def zo3 (I:VI C VR)(D:Dfn K mg "put" sput ["vault","root","key","worth"]) (zgT:FnX P w K mg base "way_to" 22 ["vault","root","key"] (zjU VR CN CB CC)) (zfd:Fn P w K mg base "ends_at" 1 ["way","key"] (zfN K)) (zcm:Mt P w K mg base (CX1 P w) C "lay" 14 ["self","thing"] (zd1 VR CC)) (c_C:Cls K C) (zil:FnX P w K mg base "hung" 22 ["vault","way","key","root","more"] (zfU VR CN CB CC)) (zok:FnX P w K mg base "parted" 22 ["vault","way","key","root","count"] (ze3 VR CN CB CC))
  (zj3:Fn P w K mg base "place_in" 22 ["way","key"] zgo) (zU:mg "COUNT" =some (.int 4 t5)) (zao:mg "LEFT" =some (.int 2 t3)) (zaa:mg "RIGHT" =some (.int 3 t4)) (zR:mg "len" =none):FnX P w K mg base "put" 23 ["vault","root","key","worth"] (zhX VR CN CB CC):=by
 refine D.okX (k:=22) zfx (λvs H Q E h=>?_) (λf cdv A outer s H vs Q E hr h=>?_)
 ·obtain⟨a,D,s,n,x,wo,vx,vw,rfl,_⟩:=h;rfl
 obtain⟨a,D,s,n,x,wo,vx,vw,rfl,vs,rx,gx,rw0,h⟩:=h;unfold Out putP at h;rw[Pg.wp_bind] at h;refine⟨_,(zb (zu (i:=4) zfx.nd rfl (Or.inl rfl) (zaP zgT hr (by omega) (by rfl) zL (za (pv 0) (za (pv 1) (za (pv 2) zc)))))
 (zb (zN (zah (zK zfd hr (by omega) (by rfl) (za (pv 4) (za (pv 2) zc))))
 (zb (zu (i:=5) zfx.nd rfl (Or.inl rfl) (zH zaL (pv 4) (zcN zbB zo) (λ_ _=>rfl)))
 (zb (zu (i:=6) zfx.nd rfl (Or.inl rfl) (zbw (pv 0) c_C zcm hr (by omega) zL (za (zbj (za (pv 2) (za (pv 3) (za (zH zI (pv 5) (zx (v:=.int 2) (by rfl) zao ⟨_,rfl⟩) (λ_ _=>rfl)) (za (zH zI (pv 5) (zx (v:=.int 3) (by rfl) zaa ⟨_,rfl⟩) (λ_ _=>rfl)) (za (zH zI (pv 5) (zx (v:=.int 4) (by rfl) zU ⟨_,rfl⟩) (λ_ _=>rfl)) zc)))))) zc)))
 (zd (zq (zaP zil hr (by omega) (by rfl) zL (za (pv 0) (za (zcf zdz (pv 4) zer (zb5 (zcN zbB zo))) (za (pv 2) (za (pv 6) (za zo zc))))))))))
 zy)
 (zb (zu (i:=7) zfx.nd rfl (Or.inl rfl) (zK zj3 hr (by omega) (by rfl) (za (pv 4) (za (pv 2) zc))))
 (zb (zu (i:=8) zfx.nd rfl (Or.inl rfl) (zaP zok hr (by omega) (by rfl) zL (za (pv 0) (za (zcf zdz (pv 4) (zb5 (pv 7)) zer) (za (pv 2) (za zo (za zo zc)))))))
 (zb (zu (i:=9) zfx.nd rfl (Or.inl rfl) (zew (zB ziD (pv 7) (zF (zT) (by rfl) zR (by rfl) (za (pv 4) zc)) (zA _)) (zH zI (zH zaL (pv 4) (pv 7) (λ_ _=>rfl)) (zx (v:=.int 4) (by rfl) zU ⟨_,rfl⟩) (λ_ _=>rfl)) zo))
 (zb (zu (i:=6) zfx.nd rfl (Or.inl rfl) (zbw (pv 0) c_C zcm hr (by omega) zL (za (zbj (za (pv 2) (za (pv 3) (za (zH zI (pv 8) zo (λ_ _=>rfl)) (za (zH zI (pv 8) zo (λ_ _=>rfl)) (za (zG zbA (pv 9) zo) zc)))))) zc)))
 (zd (zq (zaP zil hr (by omega) (by rfl) zL (za (pv 0) (za (zcf zdz (pv 4) zer (zb5 (pv 7))) (za (pv 2) (za (pv 6) (za zo zc)))))))))))))),?_⟩
 refine⟨_,rfl,_,rfl,_,rfl,a,D,s,n,x,vx,rfl,vs,rx,(Jk gx.dp (by decide)),Pg.wp_mono (λns s1 h1 v H1 f1 vs1 rn=>?_) (λ_ _ z=>z) h⟩;clear h;obtain⟨pw,ws,rfl,ew,rwy,gd,hl3⟩:=rn;have hl:ws.length=ns.length:=by rw[rwy.len,List.length_map]
 have rx1:=rx.keep (I.tups vs f1);have rw1:=rw0.keep (I.tups vs f1);refine⟨_,rfl,_,rfl,pw,ws,ns,x,vx,rfl,SqL.of ew,rwy,gd,rx1,_,rfl,?_⟩;have new:zfv ns x=false->(putN x wo ns).wp s1 (OutQ VR a D IntR H Q) (OutE VR CN CB CC a D H E):=λz=>by
  have h2:(zel x wo ns).wp s1 (OutQ VR a D IntR H Q) (OutE VR CN CB CC a D H E):=h1;unfold zel at h2;unfold zfv at z;cases y:ns.getLast? with
  | none=>rw[y] at h2;exact h2
  | some own=>
   rw[y] at h2 z;have z2:eqT own.k x=false:=z;have z':own.k≠x:=λe=>by rw[zjZ e] at z2;cases z2
   have h3:(if own.k=x then putO x wo ns own else putN x wo ns).wp s1 (OutQ VR a D IntR H Q) (OutE VR CN CB CC a D H E):=h2;rw[if_neg z'] at h3;exact h3
 cases z:zfv ns x with
 | true=>
  refine ifT rfl ?_;rcases List.eq_nil_or_concat ns with e | ⟨pre,nd,e⟩
  ·subst e;cases z
  rw[List.concat_eq_append] at e;subst e;have ek:nd.k=x:=by unfold zfv at z;rw[List.getLast?_concat] at z;exact(za8 _ _).mp z
  have h2:(zel x wo (pre++ [nd])).wp s1 (OutQ VR a D IntR H Q) (OutE VR CN CB CC a D H E):=h1;unfold zel at h2;rw[List.getLast?_concat] at h2;have h3:(if nd.k=x then putO x wo (pre++ [nd]) nd else putN x wo (pre++ [nd])).wp s1 (OutQ VR a D IntR H Q) (OutE VR CN CB CC a D H E):=h2;rw[if_pos ek] at h3;obtain⟨h0,gN,h4,h5⟩:=h3;rw[List.dropLast_concat] at h4;rw[List.map_append] at rwy;obtain⟨us,v,rfl,rus,rnd⟩:=rwy.unsnoc;obtain⟨p,vk,vw',rfl,ea,rk,_⟩:=zab rnd;have et:SqT K H1 p _:=SqT.of ea;obtain⟨dx,fs,eo,_,n2⟩:=I.ins vs1;refine⟨_,rfl,_,rfl,pw,_,_,_,rfl,rfl,SqL.of ew,zeh,?_⟩;refine⟨_,rfl,a,dx,fs,rfl,eo,n2,_,rfl,_,rfl,_,rfl,p,_,_,_,rfl,rfl,et,rfl,_,rfl,p,_,_,_,rfl,rfl,et,rfl,_,rfl,p,_,_,_,rfl,rfl,et,rfl,szl (show 5<=1000 by decide),λp2 hp2=>?_⟩;have r2:Rep (upd H1 p2 (.tup [vx,vw,.int nd.l,.int nd.r,.int nd.c])) (Nd.mk x wo nd.l nd.r nd.c).th (.ref p2):=(RepL.cons rx1 (.cons rw1 (.cons (.int _) (.cons (.int _) (.cons (.int _) .nil))))).new hp2;have s12:=zv (o:=.tup [vx,vw,.int nd.l,.int nd.r,.int nd.c]) (Same.refl H1) hp2;generalize upd H1 p2 (.tup [vx,vw,.int nd.l,.int nd.r,.int nd.c])=H2 at r2 s12;have vs2:=I.same vs1 s12;have f2:=f1.trans (Frm.of s12);refine⟨a,D,s1,_,_,rfl,vs2,h0,r2,gN,λH3 st f3 vs3=>?_,λu x' v1 v2 H3 st f3=>h5 u st x' v1 v2 H3 (f2.trans f3)⟩;have ew3:=I.lst vs2 f3 (s12 _ _ ew);have tk3:Tups H1 H3:=(Same.tups s12).trans (I.tups vs2 f3);refine⟨_,rfl,_,rfl,_,rfl,_,rfl,pw,_,rfl,SqL.of ew3,λpc hpc=>?_⟩;rw[zkV (n:=us.length) (by simp),List.take_left];have s34:=zv (o:=.lst us) (Same.refl H3) hpc;have ec:upd H3 pc (.lst us) pc=some (.lst us):=zg;generalize upd H3 pc (.lst us)=H4 at s34 ec;have f4:=(f2.trans f3).trans (Frm.of s34);have tk4:=tk3.trans (Same.tups s34);exact⟨_,rfl,_,rfl,a,pc,D,_,us,pre,x,vx,_,0,rfl,I.same vs3 s34,ec,rus.keep tk4,λy hy=>gd y (Jq _ hy),rx1.keep tk4,Pg.wp_mono (OutQ.on f4) (OutE.on f4) (h4 st)⟩
 | false=>
  have h2:=new z;refine ifF rfl ?_;clear new h1;unfold putN at h2;rw[Pg.wp_bind] at h2;have hpl:=zhf x ns;refine⟨_,rfl,_,rfl,pw,ws,ns,x,vx,rfl,ew,rwy,gd,gx,rx1,λH2 s2=>?_⟩;generalize zbd x ns=pl at hpl h2;have vs2:=I.same vs1 s2;have ew2:=s2 _ _ ew;have rwy2:=rwy.keep (Same.tups s2);have rx2:=rx1.keep (Same.tups s2);have rw2:=rw1.keep (Same.tups s2);refine⟨_,rfl,_,rfl,_,rfl,_,rfl,pw,_,rfl,SqL.of ew2,λpc hpc=>?_⟩;rw[zoW (by omega)];have s23:=zv (o:=.lst (ws.drop pl)) (Same.refl H2) hpc;have ec:upd H2 pc (.lst (ws.drop pl)) pc=some (.lst (ws.drop pl)):=zg;generalize upd H2 pc (.lst (ws.drop pl))=H3 at s23 ec;have rd:=(rwy2.keep (Same.tups s23)).drop pl;rw[<-List.map_drop] at rd;have vs3:=I.same vs2 s23;have f3:Frm D H H3:=f1.trans ((Frm.of s2).trans (Frm.of s23));refine⟨_,rfl,a,pc,D,s1,ws.drop pl,ns.drop pl,x,vx,0,0,rfl,vs3,ec,rd,λy hy=>gd y (List.mem_of_mem_drop hy),rx2.keep (Same.tups s23),Pg.wp_mono (λlr s4 h4 v H4 f4 vs4 rp=>?_) (OutE.on f3) h2⟩;obtain⟨pt,rfl,et⟩:=rp;have ew4:=I.lst vs3 f4 (s23 _ _ ew2);have tk24:Tups H2 H4:=(Same.tups s23).trans (I.tups vs3 f4);have rwy4:=rwy2.keep tk24;obtain⟨h0,gN,h5,h6⟩:=h4;refine⟨_,rfl,_,rfl,pw,_,rfl,.inl (SqL.of ew4),_,_,rfl,rfl,_,rfl,?_⟩;have key:pl < ns.length->∃p xs,atI ws (pl:Int)=some (.ref p)/\H4 p=some (.tup xs)/\atI xs 4=some (.int (zek ns pl)):=λhlt=>by have hv:ws[pl]? =some (ws[pl]'(by omega)):=List.getElem?_eq_getElem (by omega);have hn:ns[pl]? =some (ns[pl]'hlt):=List.getElem?_eq_getElem hlt;have rl:=rwy4.at pl _ _ hv (by rw[List.getElem?_map,hn];rfl);obtain⟨p,vk,vw',ev,ea,rk,_⟩:=zab rl;refine⟨p,_,by rw[zfP hv,ev],ea,?_⟩;unfold zek;rw[hn];rfl
  refine' joinM (λc hn=>?ja) (λc hn=>?jb) ?jr
  case ja=>have c':(pl:Int) < ((ws.length:Nat):Int):=Ju c;obtain⟨p,xs,e1,e2,e3⟩:=key (by clear hn;omega);exact⟨_,rfl,_,rfl,pw,_,_,_,rfl,rfl,SqL.of ew4,e1,p,_,_,_,rfl,rfl,SqT.of e2,e3,hn⟩
  case jb=>
   have c':¬(pl:Int) < ((ws.length:Nat):Int):=JB c;have hz:zek ns pl=0:=by unfold zek;rw[List.getElem?_eq_none (by clear hn;omega)]
   rw[hz] at hn;exact hn
  have et4:SqT K H4 pt [.int lr.1,.int lr.2]:=SqT.of et;obtain⟨dx4,fs4,eo4,_,n4⟩:=I.ins vs4;have rx4:=rx2.keep tk24;have rw4:=rw2.keep tk24;generalize zek ns pl=cn at gN h5 h6;refine⟨_,rfl,a,dx4,fs4,rfl,eo4,n4,_,rfl,_,rfl,_,rfl,pt,_,_,_,rfl,rfl,et4,rfl,_,rfl,pt,_,_,_,rfl,rfl,et4,rfl,_,rfl,_,_,rfl,rfl,szl (show 5<=1000 by decide),λp2 hp2=>?_⟩;have r5:Rep (upd H4 p2 (.tup [vx,vw,.int lr.1,.int lr.2,.int (cn+1)])) (Nd.mk x wo lr.1 lr.2 (cn+1)).th (.ref p2):=(RepL.cons rx4 (.cons rw4 (.cons (.int _) (.cons (.int _) (.cons (.int _) .nil))))).new hp2;have s45:=zv (o:=.tup [vx,vw,.int lr.1,.int lr.2,.int (cn+1)]) (Same.refl H4) hp2;generalize upd H4 p2 (.tup [vx,vw,.int lr.1,.int lr.2,.int (cn+1)])=H5 at r5 s45;have vs5:=I.same vs4 s45;have f5:Frm D H H5:=f3.trans (f4.trans (Frm.of s45));refine⟨a,D,s4,_,_,rfl,vs5,h0,r5,gN,λH6 st f6 vs6=>?_,λu x' v1 v2 H6 st f6=>h6 u st x' v1 v2 H6 (f5.trans f6)⟩;have ew6:=I.lst vs5 f6 (s45 _ _ ew4);have tk46:Tups H4 H6:=(Same.tups s45).trans (I.tups vs5 f6);refine⟨_,rfl,_,rfl,_,rfl,_,rfl,pw,_,rfl,SqL.of ew6,λpq hpq=>?_⟩;rw[zrp (by omega)];have s67:=zv (o:=.lst (ws.take pl)) (Same.refl H6) hpq;have eq7:upd H6 pq (.lst (ws.take pl)) pq=some (.lst (ws.take pl)):=zg;generalize upd H6 pq (.lst (ws.take pl))=H7 at s67 eq7;have rt:=(rwy4.keep (tk46.trans (Same.tups s67))).take pl;rw[<-List.map_take] at rt;have f7:=(f5.trans f6).trans (Frm.of s67);exact⟨_,rfl,_,rfl,a,pq,D,_,ws.take pl,ns.take pl,x,vx,_,1,rfl,I.same vs6 s67,eq7,rt,λy hy=>gd y (List.mem_of_mem_take hy),(rx4.keep tk46).keep (Same.tups s67),Pg.wp_mono (OutQ.on f7) (OutE.on f7) (h5 st)⟩
end
abbrev zfD:Stmt:=top 58
def zaq:zr ["vault","left","right","count","left_count","right_count","down","one","other","both","root","step"] ["vault","left","right","count"] (ze zfD):=L2.fsc (by decide+kernel)
abbrev scut:Stmt:=top 57
def znn:zr ["vault","root","key","way","own"] ["vault","root","key"] (ze scut):=L2.fsc (by decide+kernel)
structure Js where
 nd:Nd
 i:Int
 c:Int
abbrev Js.th (j:Js):Th:=.tup [j.nd.th,.int j.i,.int j.c]
def joinR:Nat->Int->Int->Int->Int->Pg (List Js ×Int)
 | 0,_,_,_,_=>.bad
 | f+1,l,lc,r,rc=>if l=0 then .ret ([],r) else if r=0 then .ret ([],l) else(benP l lc).bind λa=>(benP r rc).bind λb=>
  if zaI a.k b.k=true then(joinR f a.r a.c r rc).bind λy=>.ret (⟨a,3,a.c+b.c⟩::y.1,y.2) else(joinR f l lc b.l b.c).bind λy=>.ret (⟨b,2,a.c+b.c⟩::y.1,y.2)
def upP:List Js->Int->Pg Int
 | [],n=>.ret n
 | j::r,n=>.lay (zaw j.nd j.i n j.c).th (upP r (zj (zaw j.nd j.i n j.c).th))
def ziQ (l r c:Int):Pg Int:=(joinR 600 l c r c).bind λy=>upP y.1.reverse y.2
def cutK (n:Int)(x:Th)(ns:List Nd):Pg Int:=match ns.getLast? with
 | none=>.ret n
 | some own=>if own.k=x then(ziQ own.l own.r own.c).bind λm=>zb3 x (-1) ns.dropLast.reverse m else .ret n
def cutP (n:Int)(x:Th):Pg Int:=(wayP x 301 n 301).bind (cutK n x)
def zhm (VR:VRT)(CN CB CC:Addr):Sp:=λvs H Q E=>∃(a:Addr) (D:QO) (s:Vst) (l r c:Int),vs=[.ref a,.int l,.int r,.int c]/\VR H a D s/\1<=c/\c<=300/\Out VR CN CB CC a D (ziQ l r c) s IntR H Q E
def zjw (VR:VRT)(CN CB CC:Addr):Sp:=λvs H Q E=>∃(a:Addr) (D:QO) (s:Vst) (n:Int) (x:Th) (vx:V),vs=[.ref a,.int n,vx]/\VR H a D s/\Rep H x vx/\dep x<=8/\Out VR CN CB CC a D (cutP n x) s IntR H Q E
section
variable {P:Program}{w:World}{K:QA}{mg:QB}{base:Heap}{VR:VRT}{C CC CN CB:Addr}{x:Str}{t1 t2 t3 t4 t5 t6 t7:Tok}
def znf (I:VI C VR)(D:Dfn K mg "joined" zfD ["vault","left","right","count"]) (zbt:FnX P w K mg base "node_beneath" 4 ["vault","root","count"] (zhK VR CN CB CC)) (zeH:Fn P w K mg base "above" 21 ["key","other"] zfS) (zcm:Mt P w K mg base (CX1 P w) C "lay" 14 ["self","thing"] (zd1 VR CC)) (c_C:Cls K C) (zbh:Fn P w K mg base "with_tree" 1 ["node","side","root","count"] zes)
  (zaM:mg "KEY" =some (.int 0 t1)) (zao:mg "LEFT" =some (.int 2 t3)) (zaa:mg "RIGHT" =some (.int 3 t4)) (zU:mg "COUNT" =some (.int 4 t5)) (zbf:mg "reversed" =none):FnX P w K mg base "joined" 22 ["vault","left","right","count"] (zhm VR CN CB CC):=by
 refine D.okX (k:=21) zaq (λvs H Q E h=>?_) (λf cdv A outer s H vs Q E hr h=>?_)
 ·obtain⟨a,D,s,l,r,c,rfl,_⟩:=h;rfl
 obtain⟨a,D,s,l,r,c,rfl,vs,c1,c3,h⟩:=h;unfold Out ziQ at h;rw[Pg.wp_bind] at h;refine⟨_,(zb (zu (i:=4) zaq.nd rfl (Or.inl rfl) (pv 3))
 (zb (zu (i:=5) zaq.nd rfl (Or.inl rfl) (pv 3))
 (zb (zu (i:=6) zaq.nd rfl (Or.inl rfl) (za0 zc))
 (zb (ziG PassesOwn.leaving (PW.pt (zgA (zB zee (pv 1) zo (zA _)) (zex (zB zee (pv 2) zo (zA _)))))
 (zb (zu (i:=7) zaq.nd rfl (Or.inl rfl) (zaP zbt hr (by omega) (by rfl) zL (za (pv 0) (za (pv 1) (za (pv 4) zc)))))
 (zb (zu (i:=8) zaq.nd rfl (Or.inl rfl) (zaP zbt hr (by omega) (by rfl) zL (za (pv 0) (za (pv 2) (za (pv 5) zc)))))
 (zb (zu (i:=9) zaq.nd rfl (Or.inl rfl) (zG zbA (zH zI (pv 7) (zx (v:=.int 4) (by rfl) zU ⟨_,rfl⟩) (λ_ _=>rfl)) (zH zI (pv 8) (zx (v:=.int 4) (by rfl) zU ⟨_,rfl⟩) (λ_ _=>rfl))))
 (zd (zN (zah (zK zeH hr (by omega) (by rfl) (za (zH zI (pv 7) (zx (v:=.int 0) (by rfl) zaM ⟨_,rfl⟩) (λ_ _=>rfl)) (za (zH zI (pv 8) (zx (v:=.int 0) (by rfl) zaM ⟨_,rfl⟩) (λ_ _=>rfl)) zc))))
 (zb (zax (zhi PySem.F.plainAttrs_list PySem.F.slot_list_append PySem.F.type_list_append zca (pv 6) (za (zbj (za (pv 7) (za (zx (v:=.int 3) (by rfl) zaa ⟨_,rfl⟩) (za (pv 9) zc)))) zc)))
 (zb (zu (i:=1) zaq.nd rfl (Or.inl rfl) (zH zI (pv 7) (zx (v:=.int 3) (by rfl) zaa ⟨_,rfl⟩) (λ_ _=>rfl)))
 (zd (zu (i:=4) zaq.nd rfl (Or.inl rfl) (zH zI (pv 7) (zx (v:=.int 4) (by rfl) zU ⟨_,rfl⟩) (λ_ _=>rfl))))))
 (zb (zax (zhi PySem.F.plainAttrs_list PySem.F.slot_list_append PySem.F.type_list_append zca (pv 6) (za (zbj (za (pv 8) (za (zx (v:=.int 2) (by rfl) zao ⟨_,rfl⟩) (za (pv 9) zc)))) zc)))
 (zb (zu (i:=2) zaq.nd rfl (Or.inl rfl) (zH zI (pv 8) (zx (v:=.int 2) (by rfl) zao ⟨_,rfl⟩) (λ_ _=>rfl)))
 (zd (zu (i:=5) zaq.nd rfl (Or.inl rfl) (zH zI (pv 8) (zx (v:=.int 4) (by rfl) zU ⟨_,rfl⟩) (λ_ _=>rfl))))))))))))
 (zb (zu (i:=10) zaq.nd rfl (Or.inl rfl) (zew (zB zb0 (pv 1) zo (zA _)) (pv 2) (pv 1)))
 (zb (za1 PassesOwn.leaving rfl (zjS (by rfl) zbf (pv 6)) (zZ (i:=11) zaq.nd rfl (Or.inl rfl))
 (zd (zu (i:=10) zaq.nd rfl (Or.inl rfl) (zbw (pv 0) c_C zcm hr (by omega) zL (za (zK zbh hr (by omega) (by rfl) (za (zH zI (pv 11) zo (λ_ _=>rfl)) (za (zH zI (pv 11) zo (λ_ _=>rfl)) (za (pv 10) (za (zH zI (pv 11) zo (λ_ _=>rfl)) zc))))) zc)))))
 (zd (zq (pv 10))))))))),?_⟩
 refine⟨_,rfl,_,rfl,szl (show 0<=1000 by decide),λpd hpd=>?_⟩;have s0:=zv (o:=.lst []) (Same.refl H) hpd;have e0:upd H pd (.lst []) pd=some (.lst []):=zg;generalize upd H pd (.lst [])=H0 at s0 e0;dsimp only[zdR];refine zga (fun σ H'=>∃(s1:Vst) (l r lc rc:Int) (js:List Js) (ds:QQ) (k7 k8 k9:Option V),(l=0\/r=0)/\(upP js.reverse (if l=0 then r else l)).wp s1 (OutQ VR a D IntR H Q) (OutE VR CN CB CC a D H E)/\σ=[some (.ref a),some (.int l),some (.int r),some (.int c),some (.int lc),some (.int rc),some (.ref pd),k7,k8,k9,none,none]/\Frm D H H'/\VR H' a D s1/\H' pd=some (.lst ds)/\RepL H' (js.map Js.th) ds) (λN kN=>?_) ?_
 ·refine⟨λm σ H'=>∃(s1:Vst) (l r lc rc:Int) (js:List Js) (ds:QQ) (k7 k8 k9:Option V),(joinR m l lc r rc).wp s1 (λy s'=>(upP (js++y.1).reverse y.2).wp s' (OutQ VR a D IntR H Q) (OutE VR CN CB CC a D H E)) (OutE VR CN CB CC a D H E)/\1<=lc/\1<=rc/\lc+rc<=(m:Int)/\js.length+m<=600/\σ=[some (.ref a),some (.int l),some (.int r),some (.int c),some (.int lc),some (.int rc),some (.ref pd),k7,k8,k9,none,none]/\Frm D H H'/\VR H' a D s1/\H' pd=some (.lst ds)/\RepL H' (js.map Js.th) ds,⟨600,s,l,r,c,c,[],[],_,_,_,h,c1,c1,by omega,by decide,rfl,Frm.of s0,I.same vs s0,e0,.nil⟩,?_⟩;clear h;rintro m σ H1 ⟨s1,l,r,lc,rc,js,ds,k7,k8,k9,h,l1,r1,lm,jm,rfl,f1,vs1,e1,r1'⟩;obtain⟨m,rfl⟩:∃j,m=j+1:=⟨m - 1,by omega⟩;refine⟨_,rfl,rfl,_,rfl,?_⟩;rw[zcO];unfold joinR at h;by_cases hl:l=0
  ·rw[if_pos hl] at h;refine ifF (by rw[decide_eq_true hl];rfl) (ifF rfl (kN _ H1 ⟨s1,l,r,lc,rc,js,ds,k7,k8,k9,.inl hl,?_,rfl,f1,vs1,e1,r1'⟩));have h':(upP (js++ []).reverse r).wp s1 (OutQ VR a D IntR H Q) (OutE VR CN CB CC a D H E):=h;rw[List.append_nil] at h';rw[if_pos hl];exact h'
  rw[if_neg hl] at h;refine ifT (by rw[Je hl];rfl) ⟨_,rfl,rfl,_,rfl,?_⟩;rw[zcO];by_cases hr0:r=0
  ·rw[if_pos hr0] at h;refine ifF (by rw[decide_eq_true hr0];rfl) (kN _ H1 ⟨s1,l,r,lc,rc,js,ds,k7,k8,k9,.inr hr0,?_,rfl,f1,vs1,e1,r1'⟩);have h':(upP (js++ []).reverse l).wp s1 (OutQ VR a D IntR H Q) (OutE VR CN CB CC a D H E):=h;rw[List.append_nil] at h';rw[if_neg hl];exact h'
  rw[if_neg hr0,Pg.wp_bind] at h;refine ifT (by rw[Je hr0];rfl) ⟨_,fun σ' H' h=>h,?_⟩;refine⟨_,rfl,_,rfl,_,rfl,a,D,s1,l,lc,rfl,vs1,Pg.wp_mono (λone s2 h2 v H2 f2 vs2 rn=>?_) (OutE.on f1) (zk1 h)⟩;obtain⟨⟨o1,o2⟩,h2⟩:=h2;rw[Pg.wp_bind] at h2;have f12:=f1.trans f2;refine⟨_,rfl,_,rfl,_,rfl,a,D,s2,r,rc,rfl,vs2,Pg.wp_mono (λother s3 h3 v' H3 f3 vs3 rn'=>?_) (OutE.on f12) (zk1 h2)⟩;obtain⟨⟨q1,q2⟩,h3⟩:=h3;have f13:=f12.trans f3;obtain⟨rn,gn⟩:=rn;obtain⟨rn',gn'⟩:=rn';have rn3:=rn.keep (I.tups vs2 f3);have tk13:=(I.tups vs1 f2).trans (I.tups vs2 f3);have e3:=I.lst vs2 f3 (I.lst vs1 f2 e1);have r3:=r1'.keep tk13;clear rn r1' e1 h h2;obtain⟨p,vk,vw,rfl,ea,rk,_⟩:=zab rn3;obtain⟨p',vk',vw',rfl,ea',rk',_⟩:=zab rn';have et:SqT K H3 p _:=SqT.of ea;have et':SqT K H3 p' _:=SqT.of ea';refine⟨_,rfl,p,_,_,_,rfl,rfl,et,rfl,_,rfl,p',_,_,_,rfl,rfl,et',rfl,_,_,rfl,rfl,?_⟩;refine⟨_,rfl,p,_,_,_,rfl,rfl,et,rfl,_,rfl,p',_,_,_,rfl,rfl,et',rfl,one.k,other.k,_,_,rfl,rk,rk',(zf6 gn).1,(zf6 gn').1,λH4 s4=>⟨_,rfl,?_⟩⟩;have f14:=f13.trans (Frm.of s4);have vs4:=I.same vs3 s4;have e4:=s4 _ _ e3;have r4:=r3.keep (Same.tups s4);have ea4:=s4 _ _ ea;have ea4':=s4 _ _ ea';have rn4:=rn3.keep (Same.tups s4);have rn4':=rn'.keep (Same.tups s4);have hds:ds.length=js.length:=by rw[r4.len,List.length_map]
  have grow:∀(j:Js) (q:Addr) (d2:Addr),Rep H4 j.nd.th (.ref q)->H4 d2=none->∃H5,upd (upd H4 d2 (.tup [.ref q,.int j.i,.int j.c])) pd (.lst (ds++ [.ref d2]))=H5/\upd H4 d2 (.tup [.ref q,.int j.i,.int j.c]) pd=some (.lst ds)/\Frm D H H5/\VR H5 a D s3/\H5 pd=some (.lst (ds++ [.ref d2]))/\RepL H5 ((js++ [j]).map Js.th) (ds++ [.ref d2])/\Tups H4 H5:=λj q d2 rq hd2=>by
   have s5:=zv (o:=.tup [.ref q,.int j.i,.int j.c]) (Same.refl H4) hd2;have rp:Rep (upd H4 d2 (.tup [.ref q,.int j.i,.int j.c])) j.th (.ref d2):=(RepL.cons rq (.cons (.int _) (.cons (.int _) .nil))).new hd2;generalize upd H4 d2 (.tup [.ref q,.int j.i,.int j.c])=H5 at s5 rp;have e5:=s5 _ _ e4;have tk:Tups H5 (upd H5 pd (.lst (ds++ [.ref d2]))):=Tups.upd λxs z=>by rw[e5] at z;cases z
   refine⟨_,rfl,e5,zk7 (f14.trans (Frm.of s5)) hpd,I.nl (I.same vs4 s5) (NL.lst e5),zg,?_,(Same.tups s5).trans tk⟩;rw[List.map_append];exact((r4.keep (Same.tups s5)).keep tk).snoc (rp.keep tk)
  cases z:zaI one.k other.k with
  | true=>rw[if_pos z,Pg.wp_bind] at h3;refine ifT rfl ?_;refine⟨_,rfl,.inl ⟨rfl,_,SqL.of e4⟩,_,rfl,_,rfl,szl (show 3<=1000 by decide),λpt hpt=>?_⟩;obtain⟨H5,eH,e5,f5,vs5,e5',r5,tk5⟩:=grow ⟨one,3,one.c+other.c⟩ p pt rn4 hpt;refine⟨pd,ds,_,rfl,rfl,e5,Jg (show ds.length < 1000 by omega) (szl (Jb _)),?_⟩;rw[eH];have ea5:=tk5 _ _ ea4;refine⟨_,rfl,p,_,_,_,rfl,rfl,SqT.of ea5,rfl,?_⟩;refine⟨_,rfl,p,_,_,_,rfl,rfl,SqT.of ea5,rfl,?_⟩;refine⟨m,Nat.lt_succ_self m,s3,_,_,_,_,js++ [⟨one,3,one.c+other.c⟩],_,_,_,_,Pg.wp_mono (λy s' z=>?_) (λ_ _ z=>z) h3,o1,r1,by omega,by rw[List.length_append];show js.length+1+m<=600;omega,rfl,f5,vs5,e5',r5⟩;have z':(upP (js++(⟨one,3,one.c+other.c⟩::y.1)).reverse y.2).wp s' (OutQ VR a D IntR H Q) (OutE VR CN CB CC a D H E):=z;rw[List.append_assoc];exact z'
  | false=>rw[if_neg (by rw[z];exact Jf),Pg.wp_bind] at h3;refine ifF rfl ?_;refine⟨_,rfl,.inl ⟨rfl,_,SqL.of e4⟩,_,rfl,_,rfl,szl (show 3<=1000 by decide),λpt hpt=>?_⟩;obtain⟨H5,eH,e5,f5,vs5,e5',r5,tk5⟩:=grow ⟨other,2,one.c+other.c⟩ p' pt rn4' hpt;refine⟨pd,ds,_,rfl,rfl,e5,Jg (show ds.length < 1000 by omega) (szl (Jb _)),?_⟩;rw[eH];have ea5:=tk5 _ _ ea4';refine⟨_,rfl,p',_,_,_,rfl,rfl,SqT.of ea5,rfl,?_⟩;refine⟨_,rfl,p',_,_,_,rfl,rfl,SqT.of ea5,rfl,?_⟩;refine⟨m,Nat.lt_succ_self m,s3,_,_,_,_,js++ [⟨other,2,one.c+other.c⟩],_,_,_,_,Pg.wp_mono (λy s' z=>?_) (λ_ _ z=>z) h3,l1,q1,by omega,by rw[List.length_append];show js.length+1+m<=600;omega,rfl,f5,vs5,e5',r5⟩;have z':(upP (js++(⟨other,2,one.c+other.c⟩::y.1)).reverse y.2).wp s' (OutQ VR a D IntR H Q) (OutE VR CN CB CC a D H E):=z;rw[List.append_assoc];exact z'
 ·clear h;rintro σ H1 ⟨s1,l,r,lc,rc,js,ds,k7,k8,k9,hlr,h,rfl,f1,vs1,e1,r1⟩;have hds:ds.length=js.length:=by rw[r1.len,List.length_map]
  refine zga (fun σ H'=>σ=[some (.ref a),some (.int l),some (.int r),some (.int c),some (.int lc),some (.int rc),some (.ref pd),k7,k8,k9,some (.int (if l=0 then r else l)),none]/\H'=H1) (λN kN=>?_) ?_
  ·refine⟨_,rfl,rfl,_,rfl,?_⟩;rw[zcO];by_cases hl:l=0
   ·exact ifT (decide_eq_true hl) ⟨_,rfl,kN _ _ ⟨by rw[if_pos hl];rfl,rfl⟩⟩
   ·exact ifF (Je hl) ⟨_,rfl,kN _ _ ⟨by rw[if_neg hl];rfl,rfl⟩⟩
  rintro σ H1' ⟨rfl,rfl⟩;generalize(if l=0 then r else l)=n at h;refine⟨_,rfl,pd,_,rfl,SqL.of e1,?_⟩;refine zib (λj σ H'=>∃(s2:Vst) (n:Int) (k11:Option V),(upP (js.reverse.drop j) n).wp s2 (OutQ VR a D IntR H Q) (OutE VR CN CB CC a D H E)/\σ=[some (.ref a),some (.int l),some (.int r),some (.int c),some (.int lc),some (.int rc),some (.ref pd),k7,k8,k9,some (.int n),k11]/\Frm D H1' H'/\VR H' a D s2) ⟨s1,n,_,h,rfl,Frm.refl,vs1⟩ ?_ ?_ ?_
  ·rintro j σ H' ⟨s2,n,k11,_,rfl,fr,_⟩;exact SqL.of (I.lst vs1 fr e1)
  ·rintro j y σ H' hj hy ⟨s2,n,k11,h,rfl,fr,vs2⟩;obtain⟨st,hm,ed,rl⟩:=zjz r1 hj hy;rw[ed] at h;obtain⟨h0,gN,h1,h2⟩:=h;have rl':=rl.keep (I.tups vs1 fr);obtain⟨pt,xs,e,ept,rx⟩:=rl'.list;subst e;cases rx with
   | cons rn rx2=>
   cases rx2 with
   | cons r2 rx3=>
   cases rx3 with
   | cons r3 rx4=>
   cases rx4 with
   | nil=>
   cases r2;cases r3;obtain⟨dx,fs,eo,_,n2⟩:=I.ins vs2;have et:SqT K H' pt _:=SqT.of ept;refine⟨_,rfl,a,dx,fs,rfl,eo,n2,_,rfl,pt,_,_,_,rfl,rfl,et,rfl,_,rfl,pt,_,_,_,rfl,rfl,et,rfl,_,rfl,_,rfl,pt,_,_,_,rfl,rfl,et,rfl,_,st.nd,_,_,_,rfl,rn,λp2 H3 s3 r3=>?_⟩;have f12:=f1.trans (fr.trans (Frm.of s3));exact⟨a,D,s2,_,_,rfl,I.same vs2 s3,h0,r3,gN,λH4 st4 f4 vs4=>⟨_,_,_,h1 st4,rfl,fr.trans ((Frm.of s3).trans f4),vs4⟩,λu x' v1 v2 H4 st4 f4=>h2 u st4 x' v1 v2 H4 (f12.trans f4)⟩
  ·rintro σ H' ⟨s2,n,k11,h,rfl,fr,vs2⟩;rw[List.drop_of_length_le (by rw[List.length_reverse];omega)] at h;exact⟨_,rfl,h _ H' (f1.trans fr) vs2 rfl⟩
def zpe (I:VI C VR)(D:Dfn K mg "cut" scut ["vault","root","key"]) (zgT:FnX P w K mg base "way_to" 22 ["vault","root","key"] (zjU VR CN CB CC)) (zfd:Fn P w K mg base "ends_at" 1 ["way","key"] (zfN K)) (zil:FnX P w K mg base "hung" 22 ["vault","way","key","root","more"] (zfU VR CN CB CC)) (zol:FnX P w K mg base "joined" 22 ["vault","left","right","count"] (zhm VR CN CB CC))
  (zU:mg "COUNT" =some (.int 4 t5)) (zao:mg "LEFT" =some (.int 2 t3)) (zaa:mg "RIGHT" =some (.int 3 t4)):FnX P w K mg base "cut" 23 ["vault","root","key"] (zjw VR CN CB CC):=by
 refine D.okX (k:=22) znn (λvs H Q E h=>?_) (λf cdv A outer s H vs Q E hr h=>?_)
 ·obtain⟨a,D,s,n,x,vx,rfl,_⟩:=h;rfl
 obtain⟨a,D,s,n,x,vx,rfl,vs,rx,dx,h⟩:=h;unfold Out cutP at h;rw[Pg.wp_bind] at h;refine⟨_,(zb (zu (i:=3) znn.nd rfl (Or.inl rfl) (zaP zgT hr (by omega) (by rfl) zL (za (pv 0) (za (pv 1) (za (pv 2) zc)))))
 (zb (zN (zc1 (zah (zK zfd hr (by omega) (by rfl) (za (pv 3) (za (pv 2) zc)))))
 (zd (zq (pv 1)))
 zy)
 (zb (zu (i:=4) znn.nd rfl (Or.inl rfl) (zH zaL (pv 3) (zcN zbB zo) (λ_ _=>rfl)))
 (zd (zq (zaP zil hr (by omega) (by rfl) zL (za (pv 0) (za (zcf zdz (pv 3) zer (zb5 (zcN zbB zo))) (za (pv 2) (za (zaP zol hr (by omega) (by rfl) zL (za (pv 0) (za (zH zI (pv 4) (zx (v:=.int 2) (by rfl) zao ⟨_,rfl⟩) (λ_ _=>rfl)) (za (zH zI (pv 4) (zx (v:=.int 3) (by rfl) zaa ⟨_,rfl⟩) (λ_ _=>rfl)) (za (zH zI (pv 4) (zx (v:=.int 4) (by rfl) zU ⟨_,rfl⟩) (λ_ _=>rfl)) zc))))) (za (zcN zbB zo) zc))))))))))),?_⟩
 refine⟨_,rfl,_,rfl,_,rfl,a,D,s,n,x,vx,rfl,vs,rx,dx,Pg.wp_mono (λns s1 h1 v H1 f1 vs1 rn=>?_) (λ_ _ z=>z) (zmX (by decide) h)⟩;obtain⟨hok,h1⟩:=h1;clear h;obtain⟨pw,ws,rfl,ew,rwy,gd,hl3⟩:=rn;have rx1:=rx.keep (I.tups vs f1);refine⟨_,rfl,_,rfl,pw,ws,ns,x,vx,rfl,SqL.of ew,rwy,gd,rx1,_,rfl,?_⟩;unfold cutK at h1;rcases List.eq_nil_or_concat ns with e | ⟨pre,nd,e⟩
 ·subst e;exact ifT rfl ⟨_,rfl,h1 _ H1 f1 vs1 rfl⟩
 rw[List.concat_eq_append] at e;subst e;have eb:zfv (pre++ [nd]) x=eqT nd.k x:=by unfold zfv;rw[List.getLast?_concat]
 rw[List.getLast?_concat] at h1;have h3:(if nd.k=x then(ziQ nd.l nd.r nd.c).bind λm=>zb3 x (-1) (pre++ [nd]).dropLast.reverse m else .ret n).wp s1 (OutQ VR a D IntR H Q) (OutE VR CN CB CC a D H E):=h1;rw[eb];by_cases ek:nd.k=x
 ·rw[if_pos ek,Pg.wp_bind,List.dropLast_concat] at h3;rw[zjZ ek];refine ifF rfl ?_;have okn:=hok nd (Jj _ List.mem_cons_self);rw[List.map_append] at rwy;obtain⟨us,v,rfl,rus,rnd⟩:=rwy.unsnoc;obtain⟨p,vk,vw',rfl,ea,rk,_⟩:=zab rnd;have et:SqT K H1 p _:=SqT.of ea;refine⟨_,rfl,_,rfl,pw,_,_,_,rfl,rfl,SqL.of ew,zeh,?_⟩;refine⟨_,rfl,_,rfl,_,rfl,_,rfl,pw,_,rfl,SqL.of ew,λpc hpc=>?_⟩;rw[zkV (n:=us.length) (by simp),List.take_left];have s12:=zv (o:=.lst us) (Same.refl H1) hpc;have ec:upd H1 pc (.lst us) pc=some (.lst us):=zg;generalize upd H1 pc (.lst us)=H2 at s12 ec;have vs2:=I.same vs1 s12;have et2:SqT K H2 p _:=SqT.of (s12 _ _ ea);have f2:=f1.trans (Frm.of s12);refine⟨_,rfl,_,rfl,_,rfl,p,_,_,_,rfl,rfl,et2,rfl,_,rfl,p,_,_,_,rfl,rfl,et2,rfl,_,rfl,p,_,_,_,rfl,rfl,et2,rfl,a,D,s1,nd.l,nd.r,nd.c,rfl,vs2,okn.1,okn.2,Pg.wp_mono (λm s3 h4 v H3 f3 vs3 ev=>?_) (OutE.on f2) h3⟩;have ev':v=.int m:=ev;subst ev';have f23:=f2.trans f3;have tk3:=(Same.tups s12).trans (I.tups vs2 f3);exact⟨_,rfl,a,pc,D,s3,us,pre,x,vx,m, -1,rfl,vs3,I.lst vs2 f3 ec,rus.keep tk3,λy hy=>gd y (Jq _ hy),rx1.keep tk3,Pg.wp_mono (OutQ.on f23) (OutE.on f23) h4⟩
 ·rw[if_neg ek] at h3;rw[zn0 ek];exact ifT rfl ⟨_,rfl,h3 _ H1 f1 vs1 rfl⟩
end
end Pv
set_option maxHeartbeats 400000
namespace Ps
open PySem PyProof.Rows
def zoT:Bool->Keyed->Array Keyed->Nat->Nat->Nat->StateT SortSt Sem (Option Nat):=sortPriv% PySem.Builtin.gallop
section
variable {prog:Program}{w:World}{A:Around}{E:QC}{s:Shared}
abbrev _root_.QL:=Array Keyed
noncomputable abbrev _root_.Jd:=@wpS_pure
def zC {arr:QL}{i:Nat}{p:Keyed}{st:SortSt}{Q:Keyed->SortSt->Prop}(e:arr[i]? =some p)(h:Q p st):wpS (model prog w) A E s (elem' arr i) Q st:=by rw[elem'_eq,e];exact Jd h
noncomputable abbrev _root_.Jc:=@wpS_bind
def zfR {x y:Keyed}{a b:Int}{t u:Tok}{st:SortSt}{Q:Option Bool->SortSt->Prop}(hk:kindOf st=oneType')(ex:x.1=.int a t)(ey:y.1=.int b u)(h:Q (some (decide (a < b))) st):wpS (model prog w) A E s (lt' x y) Q st:=by rw[lt'_eq];refine Jc (wpS_get ?_);rw[hk,keyLt'_oneType,ex,ey];exact Jc (wpS_lift (wpAny_attempt (oneLt_int ⟨rfl,Jd h⟩)))
def bey (left:Bool)(k x:Int):Bool:=if left then decide (x < k) else !decide (k < x)
def zoe {left:Bool}{k x y:Int}(h:x<=y)(b:bey left k y=true):bey left k x=true:=by cases left <;> simp[bey] at b ⊢ <;> omega
def zbV {arr:QL}(h0:IntKeys arr){i:Nat}(hi:i < arr.size):∃t q,arr[i]? =some (.int (K arr i) t,q):=by obtain⟨n,t,hn⟩:=h0 arr[i] (by simp);have e:arr[i]? =some arr[i]:=getElem?_pos _ i hi;have e2:arr[i]=(.int n t,arr[i].2):=Prod.ext hn rfl;exact⟨t,arr[i].2,by unfold K;rw[e,e2];rfl⟩
def zdl {left:Bool}{key:Keyed}{k:Int}{t:Tok}{arr:QL}{i:Nat}{st:SortSt}{Q:Option Bool->SortSt->Prop}(hk:kindOf st=oneType')(ek:key.1=.int k t)(h0:IntKeys arr)(hi:i < arr.size)
  (h:Q (some (bey left k (K arr i))) st):wpS (model prog w) A E s (do let x<-elem' arr i;if left=true then lt' x key else do let r<-lt' key x;pure (r.map (!·))) Q st:=by
 obtain⟨u,q,e⟩:=zbV h0 hi;refine Jc (zC e ?_);cases left with
 | true=>rw[if_pos rfl];exact zfR hk rfl ek h
 | false=>rw[if_neg (by decide)];exact Jc (zfR hk ek rfl (Jd h))
def zgC {P:Nat->Bool}{n lo hi:Nat}{st:SortSt}{f:Nat->Option (Option Nat) ×Nat ×Nat->StateT SortSt Sem (ForInStep (Option (Option Nat) ×Nat ×Nat))}{R:Option (Option Nat) ×Nat ×Nat->SortSt->Prop}
  (dn:∀i j,i<=j->j < n->P j=true->P i=true) (h1:lo<=hi) (h2:hi<=n) (h3:∀i,i < lo->P i=true) (h4:∀i,hi<=i->i < n->P i=false)
  (s1:∀x l r T,l≥r->T (.done (none,l,r)) st->wpS (model prog w) A E s (f x (none,l,r)) T st)
  (s2:∀x l r T,l < r->r<=n->(P (l+(r - l) / 2)=true->T (.yield (none,l+(r - l) / 2+1,r)) st)->(P (l+(r - l) / 2)=false->T (.yield (none,l,l+(r - l) / 2)) st)->wpS (model prog w) A E s (f x (none,l,r)) T st)
  (hR:∀r,r<=n->(∀i,i < r->P i=true)->(∀i,r<=i->i < n->P i=false)->R (none,r,r) st):
  wpS (model prog w) A E s (forIn [:n] (none,lo,hi) f) R st:=by
 have up:∀i j,i<=j->j < n->P i=false->P j=false:=λi j a b c=>by
  cases z:P j with
  | false=>rfl
  | true=>rw[dn i j a b z] at c;exact c
 refine wpS_forRange (I:=λx c st'=>st'=st/\∃l r,c=(none,l,r)/\l<=r/\r<=n/\r - l<=n - x/\(∀i,i < l->P i=true)/\(∀i,r<=i->i < n->P i=false)) ?_ ?_ ⟨rfl,lo,hi,rfl,h1,h2,by omega,h3,h4⟩
 ·rintro x c st' _ hx ⟨rfl,l,r,rfl,g1,g2,g3,g4,g5⟩;by_cases z:l≥r
  ·have:l=r:=by omega
   subst this;exact s1 x l l _ z (hR l g2 g4 g5)
  ·refine s2 x l r _ (by omega) g2 (λy=>?_) λy=>?_
   ·exact⟨rfl,_,_,rfl,by omega,by omega,by omega,λi hi=>dn i _ (by omega) (by omega) y,g5⟩
   ·exact⟨rfl,_,_,rfl,by omega,by omega,by omega,g4,λi a b=>up _ i a b y⟩
 ·rintro c st' ⟨rfl,l,r,rfl,g1,g2,g3,g4,g5⟩;have:l=r:=by omega
  subst this;exact hR l g2 g4 g5
def zaC {left:Bool}{key:Keyed}{k:Int}{t:Tok}{arr:QL}{base n hint:Nat}{st:SortSt}{Q:Option Nat->SortSt->Prop}(hk:kindOf st=oneType')(ek:key.1=.int k t)(h0:IntKeys arr)
  (hn:base+n<=arr.size) (hh:hint < n) (hs:∀i j,i<=j->j < n->K arr (base+i)<=K arr (base+j))
  (h:∀r,r<=n->(∀i,i < r->bey left k (K arr (base+i))=true)->(∀i,r<=i->i < n->bey left k (K arr (base+i))=false)->Q (some r) st):
  wpS (model prog w) A E s (zoT left key arr base n hint) Q st:=by
 have dn:∀i j,i<=j->j < n->bey left k (K arr (base+j))=true->bey left k (K arr (base+i))=true:=λi j a b c=>zoe (hs i j a b) c;have up:∀i j,i<=j->j < n->bey left k (K arr (base+i))=false->bey left k (K arr (base+j))=false:=λi j a b c=>by
  cases z:bey left k (K arr (base+j)) with
  | false=>rfl
  | true=>rw[dn i j a b z] at c;exact c
 refine Jc (zdl hk ek h0 (by omega) ?_);dsimp only;cases b0:bey left k (K arr (base+hint)) with
 | true=>
  rw[if_pos rfl];refine Jc (wpS_mono (wpS_forRange (I:=λx c st'=>st'=st/\∃l o,c=(none,l,o)/\l < o/\x+1<=o/\hint+l < n/\bey left k (K arr (base+(hint+l)))=true)
   (Q:=λc st'=>st'=st/\∃l o,c=(none,l,o)/\l < o/\hint+l < n/\bey left k (K arr (base+(hint+l)))=true/\(hint+o < n->bey left k (K arr (base+(hint+o)))=false)) ?_ ?_ ⟨rfl,0,1,rfl,by omega,by omega,by omega,b0⟩) ?_)
  ·rintro x c st' _ hx ⟨rfl,l,o,rfl,g1,g2,g3,g4⟩;dsimp only;by_cases z:o≥n - hint
   ·rw[if_pos z];exact Jd ⟨rfl,l,o,rfl,g1,g3,g4,λq=>Jh q (by omega)⟩
   ·rw[if_neg z];refine Jc (zdl hk ek h0 (by omega) ?_);dsimp only;cases y:bey left k (K arr (base+(hint+o))) with
    | true=>exact Jd ⟨rfl,o,2 * o+1,rfl,by omega,by omega,by omega,y⟩
    | false=>exact Jd ⟨rfl,l,o,rfl,g1,g3,g4,λ_=>y⟩
  ·rintro c st' ⟨rfl,l,o,rfl,g1,g2,g3,g4⟩;exact⟨rfl,l,o,rfl,g1,g3,g4,λq=>Jh q (by omega)⟩
  ·rintro c st' ⟨rfl,l,o,rfl,g1,g3,g4,g5⟩;dsimp only;refine Jc (zgC (P:=λi=>bey left k (K arr (base+i))) dn (lo:=hint+l+1) (hi:=hint+min o (n - hint)) (by omega) (by omega) (λi hi=>?_) (λi a b=>?_) (λx l r T z q=>?_) (λx l r T z z' q1 q2=>?_) λr x y z=>Jd (h r x y z))
   ·exact dn i _ (by omega) g3 g4
   ·exact up (hint+o) i (by omega) b (g5 (by omega))
   ·dsimp only;rw[if_pos z];exact Jd q
   ·dsimp only;rw[if_neg (by omega)];refine Jc (zdl hk ek h0 (by omega) ?_);cases y:bey left k (K arr (base+(l+(r - l) / 2))) with
    | true=>exact Jd (q1 y)
    | false=>exact Jd (q2 y)
 | false=>
  rw[if_neg (by decide)];refine Jc (wpS_mono (wpS_forRange (I:=λx c st'=>st'=st/\∃l o,c=(none,l,o)/\l < o/\x+1<=o/\l<=hint/\bey left k (K arr (base+(hint - l)))=false)
   (Q:=λc st'=>st'=st/\∃l o,c=(none,l,o)/\l < o/\l<=hint/\bey left k (K arr (base+(hint - l)))=false/\(o<=hint->bey left k (K arr (base+(hint - o)))=true)) ?_ ?_ ⟨rfl,0,1,rfl,by omega,by omega,by omega,b0⟩) ?_)
  ·rintro x c st' _ hx ⟨rfl,l,o,rfl,g1,g2,g3,g4⟩;dsimp only;by_cases z:o≥hint+1
   ·rw[if_pos z];exact Jd ⟨rfl,l,o,rfl,g1,g3,g4,λq=>Jh q (by omega)⟩
   ·rw[if_neg z];refine Jc (zdl hk ek h0 (by omega) ?_);dsimp only;cases y:bey left k (K arr (base+(hint - o))) with
    | true=>exact Jd ⟨rfl,l,o,rfl,g1,g3,g4,λ_=>y⟩
    | false=>exact Jd ⟨rfl,o,2 * o+1,rfl,by omega,by omega,by omega,y⟩
  ·rintro c st' ⟨rfl,l,o,rfl,g1,g2,g3,g4⟩;exact⟨rfl,l,o,rfl,g1,g3,g4,λq=>Jh q (by omega)⟩
  ·rintro c st' ⟨rfl,l,o,rfl,g1,g3,g4,g5⟩;dsimp only;refine Jc (zgC (P:=λi=>bey left k (K arr (base+i))) dn (lo:=hint+1 - min o (hint+1)) (hi:=hint - l) (by omega) (by omega) (λi hi=>?_) (λi a b=>?_) (λx l r T z q=>?_) (λx l r T z z' q1 q2=>?_) λr x y z=>Jd (h r x y z))
   ·exact dn i (hint - o) (by omega) (by omega) (g5 (by omega))
   ·exact up (hint - l) i a b g4
   ·dsimp only;rw[if_pos z];exact Jd q
   ·dsimp only;rw[if_neg (by omega)];refine Jc (zdl hk ek h0 (by omega) ?_);cases y:bey left k (K arr (base+(l+(r - l) / 2))) with
    | true=>exact Jd (q1 y)
    | false=>exact Jd (q2 y)
end
def nm (p:Keyed):Int:=numOf p.1
theorem K_at {xs:QL}{i:Nat}(hi:i < xs.size):K xs i=nm xs[i]:=by unfold K;rw[getElem?_pos xs i hi];rfl
theorem zgc {xs:QL}{i:Nat}(hi:i < xs.toList.length):nm xs.toList[i]=K xs i:=by rw[K_at (by simpa using hi)];simp
def Sr (xs:QL):Prop:=∀i j,i<=j->j < xs.size->K xs i<=K xs j
structure Inv (a b out:QL)(ia ib:Nat):Prop where
 la:ia<=a.size
 lb:ib<=b.size
 perm:out.toList.Perm (a.toList.take ia++b.toList.take ib)
 srt:out.toList.Pairwise (λp q=>nm p<=nm q)
 ha:∀p∈out.toList,∀i,ia<=i->i < a.size->nm p<=K a i
 hb:∀p∈out.toList,∀i,ib<=i->i < b.size->nm p<=K b i
def Inv.swap {a b out:QL}{ia ib:Nat}(v:Inv a b out ia ib):Inv b a out ib ia:=⟨v.lb,v.la,v.perm.trans List.perm_append_comm,v.srt,v.hb,v.ha⟩
theorem zad (a:QL)(i n:Nat):(a.extract i n).toList=(a.toList.take n).drop i:=by rw[Array.toList_extract];show List.take (n - i) (List.drop i a.toList)=_;rw[List.drop_take]
def zcp {a:QL}{i n:Nat}{p:Keyed}(h:p∈(a.extract i n).toList):∃j,i<=j/\j < n/\j < a.size/\nm p=K a j:=by
 rw[zad] at h;obtain⟨m,hm,e⟩:=List.getElem_of_mem h;rw[List.getElem_drop,List.getElem_take] at e;simp only[List.length_drop,List.length_take,Array.length_toList] at hm;have l:i+m < a.size:=by omega
 refine⟨i+m,by omega,by omega,l,?_⟩;rw[K_at l,<-e];rfl
def Inv.app {a b out:QL}{ia ib:Nat}(v:Inv a b out ia ib)(sa:Sr a)(n:Nat)(h1:ia<=n)(h2:n<=a.size)(h:∀i,ia<=i->i < n->∀j,ib<=j->j < b.size->K a i<=K b j):Inv a b (out++a.extract ia n) n ib:=by
 refine⟨h2,v.lb,?_,?_,?_,?_⟩
 ·rw[Array.toList_append,zad];have e:a.toList.take n=a.toList.take ia++(a.toList.take n).drop ia:=by have:=(List.take_append_drop ia (a.toList.take n)).symm;rwa[List.take_take,Nat.min_eq_left h1] at this
  rw[e];refine(v.perm.append_right _).trans ?_;rw[List.append_assoc,List.append_assoc];refine List.Perm.append_left _ ?_;have e2:List.drop ia (List.take ia a.toList++List.drop ia (List.take n a.toList))=List.drop ia (List.take n a.toList):=by rw[<-e]
  rw[e2];exact List.perm_append_comm
 ·rw[Array.toList_append,List.pairwise_append];refine⟨v.srt,?_,λp hp q hq=>?_⟩
  ·rw[List.pairwise_iff_getElem];intro i j hi hj hij;rw[zad] at *;simp only[List.length_drop,List.length_take,Array.length_toList] at hi hj;simp only[zad,List.getElem_drop,List.getElem_take];rw[zgc,zgc];exact sa _ _ (by omega) (by omega)
  ·obtain⟨j,j1,j2,j3,e⟩:=zcp hq;rw[e];exact v.ha p hp j j1 j3
 ·intro p hp i h3 h4;rw[Array.toList_append] at hp;rcases List.mem_append.mp hp with hp | hp
  ·exact v.ha p hp i (by omega) h4
  ·obtain⟨j,j1,j2,j3,e⟩:=zcp hp;rw[e];exact sa _ _ (by omega) h4
 ·intro p hp i h3 h4;rw[Array.toList_append] at hp;rcases List.mem_append.mp hp with hp | hp
  ·exact v.hb p hp i h3 h4
  ·obtain⟨j,j1,j2,j3,e⟩:=zcp hp;rw[e];exact h j j1 j2 i h3 h4
theorem ziX {a out:QL}{i:Nat}{p:Keyed}(e:a[i]? =some p):out.push p=out++a.extract i (i+1):=by
 obtain⟨hi,e'⟩:=Array.getElem?_eq_some_iff.mp e;have:a.extract i (i+1)= #[p]:=by apply Array.ext';rw[Array.toList_extract];show List.take (i+1 - i) (List.drop i a.toList)=[p];rw[Jr (by simpa using hi),show i+1 - i=1 by omega];simp[e']
 rw[this];rfl
noncomputable abbrev _root_.Jv:=@Int.le_trans
def Inv.one {a b out:QL}{ia ib:Nat}{p:Keyed}(v:Inv a b out ia ib)(sa:Sr a)(sb:Sr b)(e:a[ia]? =some p)(h:ib < b.size->K a ia<=K b ib):Inv a b (out.push p) (ia+1) ib:=by
 obtain⟨hi,e'⟩:=Array.getElem?_eq_some_iff.mp e;rw[ziX e];refine v.app sa _ (by omega) (by omega) λi h1 h2 j h3 h4=>?_;have:i=ia:=by omega
 subst this;exact Jv (h (by omega)) (sb _ _ h3 h4)
def Mg (a b out:QL):Prop:=out.toList.Perm (a.toList++b.toList)/\out.toList.Pairwise (λp q=>nm p<=nm q)
def Inv.done {a b out:QL}{ia ib:Nat}(v:Inv a b out ia ib)(sa:Sr a)(sb:Sr b)(h:ia=a.size\/ib=b.size):Mg a b (out++a.extract ia a.size++b.extract ib b.size):=by
 have v1:=v.app sa a.size v.la (Jb _) λi h1 h2 j h3 h4=>by omega
 have v2:=(v1.swap.app sb b.size v.lb (Jb _) λi h1 h2 j h3 h4=>by omega).swap;refine⟨?_,v2.srt⟩;have:=v2.perm;rwa[List.take_of_length_le (by simp),List.take_of_length_le (by simp)] at this
def Inv.last {a b out:QL}{ia ib:Nat}(v:Inv a b out ia ib)(sa:Sr a)(sb:Sr b)(e:ia+1=a.size)(h:∀j,j < b.size->K b j<=K a (a.size - 1)):Mg a b (out++b.extract ib b.size++a.extract ia a.size):=by
 have v1:=(v.swap.app sb b.size v.lb (Jb _) λi h1 h2 j h3 h4=>by
  have:j=a.size - 1:=by omega
  subst this;exact h i h2).swap
 have v2:=v1.app sa a.size v.la (Jb _) λi h1 h2 j h3 h4=>by omega
 refine⟨?_,v2.srt⟩;have:=v2.perm;rwa[List.take_of_length_le (by simp),List.take_of_length_le (by simp)] at this
theorem Inv.start {a b:QL}{p:Keyed}(sa:Sr a)(sb:Sr b)(e:b[0]? =some p)(h:0 < a.size->K b 0<=K a 0):Inv a b #[p] 0 1:=by have v:Inv a b #[] 0 0:=⟨Nat.zero_le _,Nat.zero_le _,.nil,.nil,λp h=>by simp at h,λp h=>by simp at h⟩;have:=(v.swap.one sb sa e h).swap;exact this
end Ps
set_option maxHeartbeats 1000000
namespace Ps
open PySem PyProof.Rows
def zm1:Array Keyed->Array Keyed->StateT SortSt Sem (Array Keyed):=sortPriv% PySem.Builtin.mergeLo
structure Sm (st st':SortSt):Prop where
 kd:kindOf st'=kindOf st
 ar:arrOf st'=arrOf st
 pn:pendingOf st'=pendingOf st
 fl:failedOf st'=failedOf st
def Sm.rfl' (st:SortSt):Sm st st:=⟨rfl,rfl,rfl,rfl⟩
structure Mid (a b out:QL)(ia ib x:Nat):Prop where
 v:Inv a b out ia ib
 b1:ib < b.size
 a1:ia+1 < a.size
 pr:x<=ia+ib
section
variable {prog:Program}{w:World}{A:Around}{E:QC}{s:Shared}
def zh1 {a b:QL}{st:SortSt}{Q:Array Keyed->SortSt->Prop}(hk:kindOf st=oneType')(a0:IntKeys a)(b0:IntKeys b)(sa:Sr a)(sb:Sr b)(ha:0 < a.size)(hb:0 < b.size)(h1:K b 0<=K a 0)(h2:∀j,j < b.size->K b j<=K a (a.size - 1))
  (h:∀out st',Mg a b out->Sm st st'->Q out st'):
  wpS (model prog w) A E s (zm1 a b) Q st:=by
 refine Jc (wpS_lift (wpAny_rule ⟨rfl,?_⟩));obtain⟨t,q,e⟩:=zbV b0 hb;refine Jc (zC e ?_);have v:=Inv.start sa sb e λ_=>h1;dsimp only;by_cases z1:1=b.size
 ·rw[if_pos (by rw[<-z1];rfl)];exact Jd (h _ st (v.done sa sb (.inr z1)) (Sm.rfl' _))
 rw[if_neg (by simpa using z1)];by_cases z2:0+1=a.size
 ·rw[if_pos (by rw[<-z2];rfl)];exact Jd (h _ st (v.last sa sb z2 h2) (Sm.rfl' _))
 rw[if_neg (by simpa using z2)];refine Jc (wpS_get ?_);refine Jc (wpS_mono (wpS_forRange (I:=λx c st'=>Sm st st'/\∃out ia ib mg,c=(none,out,ia,ib,mg)/\Mid a b out ia ib x) (Q:=λc st'=>Sm st st'/\∃r d,c=(some r,d)/\Mg a b r) ?_ ?_ ⟨Sm.rfl' _,_,_,_,_,rfl,v,by omega,by omega,by omega⟩) ?_)
 ·rintro x c st1 _ _ ⟨sm1,out,ia,ib,mg,rfl,m1⟩;dsimp only;refine Jc (wpS_mono (wpS_forRange (I:=λy c st'=>Sm st st'/\∃out ia ib ac bc,c=(none,out,ia,ib,ac,bc)/\Mid a b out ia ib (x+y)) (Q:=λc st'=>Sm st st'/\((∃r d,c=(some r,d)/\Mg a b r)\/∃out ia ib ac bc,c=(none,out,ia,ib,ac,bc)/\Mid a b out ia ib x)) ?_ ?_ ⟨sm1,_,_,_,_,_,rfl,m1⟩) ?_)
  ·rintro y c st2 _ _ ⟨sm2,out,ia,ib,ac,bc,rfl,m2⟩;have ⟨v,b1,a1,pr⟩:=m2;obtain⟨tb,qb,eb⟩:=zbV b0 b1;obtain⟨ta,qa,ea⟩:=zbV a0 (show ia < a.size by omega);dsimp only;refine Jc (zC eb (Jc (zC ea (Jc (zfR (by rw[sm2.kd];exact hk) rfl rfl ?_)))));dsimp only;by_cases z:K b ib < K a ia
   ·rw[if_pos (decide_eq_true z)];refine Jc (zC eb ?_);have v':=(v.swap.one sb sa eb λ_=>Jp z).swap;by_cases z3:ib+1=b.size
    ·rw[if_pos (by simpa using z3)];exact Jd ⟨sm2,.inl ⟨_,_,rfl,v'.done sa sb (.inr z3)⟩⟩
    rw[if_neg (by simpa using z3)];split
    ·exact Jd ⟨sm2,.inr ⟨_,_,_,_,_,rfl,v',by omega,by omega,by omega⟩⟩
    ·exact Jd ⟨sm2,_,_,_,_,_,rfl,v',by omega,by omega,by omega⟩
   ·rw[if_neg (by simpa using z)];refine Jc (zC ea ?_);have v':=v.one sa sb ea λ_=>Int.not_lt.mp z;by_cases z3:ia+1+1=a.size
    ·rw[if_pos (by simpa using z3)];exact Jd ⟨sm2,.inl ⟨_,_,rfl,v'.last sa sb z3 h2⟩⟩
    rw[if_neg (by simpa using z3)];split
    ·exact Jd ⟨sm2,.inr ⟨_,_,_,_,_,rfl,v',by omega,by omega,by omega⟩⟩
    ·exact Jd ⟨sm2,_,_,_,_,_,rfl,v',by omega,by omega,by omega⟩
  ·rintro c st2 ⟨sm2,out,ia,ib,ac,bc,rfl,m2⟩;exact⟨sm2,.inr ⟨_,_,_,_,_,rfl,m2.v,m2.b1,m2.a1,Jk (JC _ _) m2.pr⟩⟩
  ·rintro c st2 ⟨sm2,⟨r,d,rfl,m2⟩ | ⟨out,ia,ib,ac,bc,rfl,m2⟩⟩
   ·exact Jd ⟨sm2,_,_,rfl,m2⟩
   dsimp only;refine Jc (wpS_lift (wpAny_rule ⟨rfl,?_⟩));refine Jc (wpS_mono (wpS_forRange (I:=λy c st'=>Sm st st'/\∃out ia ib mg ac bc,c=(none,out,ia,ib,mg,ac,bc)/\Mid a b out ia ib (x+y)) (Q:=λc st'=>Sm st st'/\((∃r d,c=(some r,d)/\Mg a b r)\/∃out ia ib mg ac bc,c=(none,out,ia,ib,mg,ac,bc)/\Mid a b out ia ib (x+1))) ?_ ?_ ⟨sm2,_,_,_,_,_,_,rfl,m2⟩) ?_)
   ·rintro y c st3 _ _ ⟨sm3,out,ia,ib,mg,ac,bc,rfl,m3⟩;have ⟨v,b1,a1,pr⟩:=m3;obtain⟨tb,qb,eb⟩:=zbV b0 b1;dsimp only;by_cases z0:mg > 1
    all_goals
     first | rw[if_pos z0] | rw[if_neg z0]
     refine Jc (wpS_modify ?_);have sm4:∀g,Sm st (SortSt.mk' (kindOf st3) (arrOf st3) (pendingOf st3) g (failedOf st3)):=λ_=>⟨sm3.kd,sm3.ar,sm3.pn,sm3.fl⟩;refine Jc (zC eb ?_);refine Jc (zaC (by show kindOf st3=_;rw[sm3.kd];exact hk) rfl a0 (by omega) (by omega) (λi j g1 g2=>sa _ _ (by omega) (by omega)) λk k1 k2 k3=>?_);dsimp only;have w2:∀i,ia<=i->i < ia+k->K a i<=K b ib:=λi g1 g2=>by have:=k2 (i - ia) (by omega);rw[show ia+(i - ia)=i by omega] at this;simpa [bey] using this
     have j3:ia+k < a.size->K b ib<=K a (ia+k):=λg=>by have:=k3 k (Jb _) (by omega);exact Jp (by simpa [bey] using this)
     by_cases z3:k > 0
     ·rw[if_pos z3];have v1:=v.app sa (ia+k) (by omega) (by omega) λi g1 g2 j g3 g4=>Jv (w2 i g1 g2) (sb _ _ g3 g4);by_cases z4:ia+k+1=a.size
      ·rw[if_pos (by simpa using z4)];exact Jd ⟨sm4 _,.inl ⟨_,_,rfl,v1.last sa sb z4 h2⟩⟩
      rw[if_neg (by simpa using z4)];by_cases z5:ia+k=a.size
      ·rw[if_pos (by simpa using z5)];exact Jd ⟨sm4 _,.inl ⟨_,_,rfl,v1.done sa sb (.inl z5)⟩⟩
      rw[if_neg (by simpa using z5)];refine Jc (zC eb ?_);have v2:=(v1.swap.one sb sa eb λz=>j3 z).swap;by_cases z5:ib+1=b.size
      ·rw[if_pos (by simpa using z5)];exact Jd ⟨sm4 _,.inl ⟨_,_,rfl,v2.done sa sb (.inr z5)⟩⟩
      rw[if_neg (by simpa using z5)];obtain⟨ta,qa,ea⟩:=zbV a0 (show ia+k < a.size by omega);refine Jc (zC ea ?_);refine Jc (zaC (by show kindOf st3=_;rw[sm3.kd];exact hk) rfl b0 (by omega) (by omega) (λi j g1 g2=>sb _ _ (by omega) (by omega)) λk' k1' k2' k3'=>?_);dsimp only;have w3:∀i,ib+1<=i->i < ib+1+k'->K b i < K a (ia+k):=λi g1 g2=>by have:=k2' (i - (ib+1)) (by omega);rw[show ib+1+(i - (ib+1))=i by omega] at this;simpa [bey] using this
      have k3':ib+1+k' < b.size->K a (ia+k)<=K b (ib+1+k'):=λg=>by have:=k3' k' (Jb _) (by omega);simpa [bey] using this
      by_cases z6:k' > 0
      ·rw[if_pos z6];have v3:=(v2.swap.app sb (ib+1+k') (by omega) (by omega) λi g1 g2 j g3 g4=>Jv (Jp (w3 i g1 g2)) (sa _ _ g3 g4)).swap;by_cases z8:ib+1+k'=b.size
       ·rw[if_pos (by simpa using z8)];exact Jd ⟨sm4 _,.inl ⟨_,_,rfl,v3.done sa sb (.inr z8)⟩⟩
       rw[if_neg (by simpa using z8)];refine Jc (zC ea ?_);have v4:=v3.one sa sb ea λz=>k3' z;by_cases z7:ia+k+1+1=a.size
       ·rw[if_pos (by simpa using z7)];exact Jd ⟨sm4 _,.inl ⟨_,_,rfl,v4.last sa sb z7 h2⟩⟩
       rw[if_neg (by simpa using z7)];split
       ·exact Jd ⟨sm4 _,.inr ⟨_,_,_,_,_,_,rfl,v4,by omega,by omega,by omega⟩⟩
       ·exact Jd ⟨sm4 _,_,_,_,_,_,_,rfl,v4,by omega,by omega,by omega⟩
      ·rw[if_neg z6];have z9:k'=0:=by omega
       subst z9;have v3:=v2;refine Jc (zC ea ?_);have v4:=v3.one sa sb ea λz=>k3' z;by_cases z7:ia+k+1+1=a.size
       ·rw[if_pos (by simpa using z7)];exact Jd ⟨sm4 _,.inl ⟨_,_,rfl,v4.last sa sb z7 h2⟩⟩
       rw[if_neg (by simpa using z7)];split
       ·exact Jd ⟨sm4 _,.inr ⟨_,_,_,_,_,_,rfl,v4,by omega,by omega,by omega⟩⟩
       ·exact Jd ⟨sm4 _,_,_,_,_,_,_,rfl,v4,by omega,by omega,by omega⟩
     ·rw[if_neg z3];have z4:k=0:=by omega
      subst z4;have v1:=v;refine Jc (zC eb ?_);have v2:=(v1.swap.one sb sa eb λz=>j3 z).swap;by_cases z5:ib+1=b.size
      ·rw[if_pos (by simpa using z5)];exact Jd ⟨sm4 _,.inl ⟨_,_,rfl,v2.done sa sb (.inr z5)⟩⟩
      rw[if_neg (by simpa using z5)];obtain⟨ta,qa,ea⟩:=zbV a0 (show ia < a.size by omega);refine Jc (zC ea ?_);refine Jc (zaC (by show kindOf st3=_;rw[sm3.kd];exact hk) rfl b0 (by omega) (by omega) (λi j g1 g2=>sb _ _ (by omega) (by omega)) λk' k1' k2' k3'=>?_);dsimp only;have w3:∀i,ib+1<=i->i < ib+1+k'->K b i < K a (ia):=λi g1 g2=>by have:=k2' (i - (ib+1)) (by omega);rw[show ib+1+(i - (ib+1))=i by omega] at this;simpa [bey] using this
      have k3':ib+1+k' < b.size->K a (ia)<=K b (ib+1+k'):=λg=>by have:=k3' k' (Jb _) (by omega);simpa [bey] using this
      by_cases z6:k' > 0
      ·rw[if_pos z6];have v3:=(v2.swap.app sb (ib+1+k') (by omega) (by omega) λi g1 g2 j g3 g4=>Jv (Jp (w3 i g1 g2)) (sa _ _ g3 g4)).swap;by_cases z8:ib+1+k'=b.size
       ·rw[if_pos (by simpa using z8)];exact Jd ⟨sm4 _,.inl ⟨_,_,rfl,v3.done sa sb (.inr z8)⟩⟩
       rw[if_neg (by simpa using z8)];refine Jc (zC ea ?_);have v4:=v3.one sa sb ea λz=>k3' z;by_cases z7:ia+1+1=a.size
       ·rw[if_pos (by simpa using z7)];exact Jd ⟨sm4 _,.inl ⟨_,_,rfl,v4.last sa sb z7 h2⟩⟩
       rw[if_neg (by simpa using z7)];split
       ·exact Jd ⟨sm4 _,.inr ⟨_,_,_,_,_,_,rfl,v4,by omega,by omega,by omega⟩⟩
       ·exact Jd ⟨sm4 _,_,_,_,_,_,_,rfl,v4,by omega,by omega,by omega⟩
      ·rw[if_neg z6];have z9:k'=0:=by omega
       subst z9;have v3:=v2;refine Jc (zC ea ?_);have v4:=v3.one sa sb ea λz=>k3' z;by_cases z7:ia+1+1=a.size
       ·rw[if_pos (by simpa using z7)];exact Jd ⟨sm4 _,.inl ⟨_,_,rfl,v4.last sa sb z7 h2⟩⟩
       rw[if_neg (by simpa using z7)];split
       ·exact Jd ⟨sm4 _,.inr ⟨_,_,_,_,_,_,rfl,v4,by omega,by omega,by omega⟩⟩
       ·exact Jd ⟨sm4 _,_,_,_,_,_,_,rfl,v4,by omega,by omega,by omega⟩
   ·rintro c st3 ⟨sm3,out,ia,ib,mg,ac,bc,rfl,m3⟩;refine⟨sm3,.inr ⟨_,_,_,_,_,_,rfl,m3.v,m3.b1,m3.a1,?_⟩⟩;have:=m3.pr;omega
   ·rintro c st3 ⟨sm3,⟨r,d,rfl,m3⟩ | ⟨out,ia,ib,mg,ac,bc,rfl,m3⟩⟩
    ·exact Jd ⟨sm3,_,_,rfl,m3⟩
    dsimp only;refine Jc (wpS_modify (Jd ?_));exact⟨⟨sm3.kd,sm3.ar,sm3.pn,sm3.fl⟩,_,_,_,_,rfl,m3⟩
 ·rintro c st1 ⟨sm1,out,ia,ib,mg,rfl,m1⟩;have:=m1.pr;have:=m1.a1;have:=m1.b1;omega
 ·rintro c st1 ⟨sm1,r,d,rfl,m1⟩;exact Jd (h _ _ m1 sm1)
end
structure InH (a b out:QL)(na nb:Nat):Prop where
 la:na<=a.size
 lb:nb<=b.size
 perm:out.toList.Perm (a.toList.drop na++b.toList.drop nb)
 srt:out.toList.Pairwise (λp q=>nm q<=nm p)
 ha:∀p∈out.toList,∀i,i < na->K a i<=nm p
 hb:∀p∈out.toList,∀i,i < nb->K b i<=nm p
def InH.swap {a b out:QL}{na nb:Nat}(v:InH a b out na nb):InH b a out nb na:=⟨v.lb,v.la,v.perm.trans List.perm_append_comm,v.srt,v.hb,v.ha⟩
def InH.app {a b out:QL}{na nb:Nat}(v:InH a b out na nb)(sa:Sr a)(m:Nat)(h1:m<=na)(h:∀i,m<=i->i < na->∀j,j < nb->K b j<=K a i):InH a b (out++(a.extract m na).reverse) m nb:=by
 have la:=v.la;refine⟨by omega,v.lb,?_,?_,?_,?_⟩
 ·rw[Array.toList_append,Array.toList_reverse];have e:a.toList.drop m=(a.extract m na).toList++a.toList.drop na:=by rw[zad];have e1:a.toList=a.toList.take na++a.toList.drop na:=(List.take_append_drop _ _).symm;have e2:=congrArg (List.drop m) e1;rw[List.drop_append_of_le_length (by simp;omega)] at e2;exact e2
  rw[e];refine(v.perm.append (List.reverse_perm _)).trans ?_;refine List.perm_append_comm.trans ?_;rw[List.append_assoc]
 ·rw[Array.toList_append,Array.toList_reverse,List.pairwise_append];refine⟨v.srt,?_,λp hp q hq=>?_⟩
  ·rw[List.pairwise_reverse,List.pairwise_iff_getElem];intro i j hi hj hij;rw[zad] at *;simp only[List.length_drop,List.length_take,Array.length_toList] at hi hj;simp only[zad,List.getElem_drop,List.getElem_take];rw[zgc,zgc];exact sa _ _ (by omega) (by omega)
  ·obtain⟨j,j1,j2,j3,e⟩:=zcp (List.mem_reverse.mp hq);rw[e];exact v.ha p hp j j2
 ·intro p hp i h3;rw[Array.toList_append,Array.toList_reverse] at hp;rcases List.mem_append.mp hp with hp | hp
  ·exact v.ha p hp i (by omega)
  ·obtain⟨j,j1,j2,j3,e⟩:=zcp (List.mem_reverse.mp hp);rw[e];exact sa _ _ (by omega) (by omega)
 ·intro p hp i h3;rw[Array.toList_append,Array.toList_reverse] at hp;rcases List.mem_append.mp hp with hp | hp
  ·exact v.hb p hp i h3
  ·obtain⟨j,j1,j2,j3,e⟩:=zcp (List.mem_reverse.mp hp);rw[e];exact h j j1 j2 i h3
def InH.one {a b out:QL}{na nb:Nat}{p:Keyed}(v:InH a b out na nb)(sa:Sr a)(sb:Sr b)(e:a[na - 1]? =some p)(h0:0 < na)(h:0 < nb->K b (nb - 1)<=K a (na - 1)):InH a b (out.push p) (na - 1) nb:=by
 have lb:=v.lb;have e1:out.push p=out++(a.extract (na - 1) na).reverse:=by
  have:=ziX (out:= #[]) e;rw[show na - 1+1=na by omega] at this;have e2:a.extract (na - 1) na= #[p]:=by simpa using this.symm
  rw[e2];rfl
 rw[e1];refine v.app sa _ (by omega) λi h1 h2 j h3=>?_;have:i=na - 1:=by omega
 subst this;exact Jv (sb _ _ (by omega) (by omega)) (h (by omega))
theorem InH.all {a b out:QL}(v:InH a b out 0 0):Mg a b out.reverse:=by
 refine⟨?_,?_⟩
 ·rw[Array.toList_reverse];refine(List.reverse_perm _).trans ?_;have:=v.perm;rwa[List.drop_zero,List.drop_zero] at this
 ·rw[Array.toList_reverse,List.pairwise_reverse];exact v.srt
def zkq (o x y:QL):(o++x.reverse++y.reverse).reverse=y++x++o.reverse:=by simp[Array.reverse_append]
def InH.done {a b out:QL}{na nb:Nat}(v:InH a b out na nb)(sa:Sr a)(sb:Sr b)(h:na=0\/nb=0):Mg a b (a.extract 0 na++b.extract 0 nb++out.reverse):=by
 have v1:=(v.swap.app sb 0 (Nat.zero_le _) λi h1 h2 j h3=>by omega).swap;have v2:=v1.app sa 0 (Nat.zero_le _) λi h1 h2 j h3=>by omega
 have:=v2.all;rwa[zkq] at this
def InH.first {a b out:QL}{na nb:Nat}(v:InH a b out na nb)(sa:Sr a)(sb:Sr b)(e:nb=1)(h:∀i,i < a.size->K b 0<=K a i):Mg a b (b.extract 0 nb++a.extract 0 na++out.reverse):=by
 have la:=v.la;have v1:=v.app sa 0 (Nat.zero_le _) λi h1 h2 j h3=>by
  have:j=0:=by omega
  subst this;exact h i (by omega)
 have v2:=(v1.swap.app sb 0 (Nat.zero_le _) λi h1 h2 j h3=>by omega).swap;have:=v2.all;rwa[zkq] at this
theorem InH.start {a b:QL}{p:Keyed}(sa:Sr a)(sb:Sr b)(ha:0 < a.size)(e:a[a.size - 1]? =some p)(h:0 < b.size->K b (b.size - 1)<=K a (a.size - 1)):InH a b #[p] (a.size - 1) b.size:=by have v:InH a b #[] a.size b.size:=⟨Jb _,Jb _,by simp,.nil,λp h=>by simp at h,λp h=>by simp at h⟩;exact v.one sa sb e ha h
def znZ:Array Keyed->Array Keyed->StateT SortSt Sem (Array Keyed):=sortPriv% PySem.Builtin.mergeHi
structure MiH (a b out:QL)(na nb x:Nat):Prop where
 v:InH a b out na nb
 a1:0 < na
 b1:1 < nb
 pr:x+na+nb<=a.size+b.size
section
variable {prog:Program}{w:World}{A:Around}{E:QC}{s:Shared}
def zhG {a b:QL}{st:SortSt}{Q:Array Keyed->SortSt->Prop}(hk:kindOf st=oneType')(a0:IntKeys a)(b0:IntKeys b)(sa:Sr a)(sb:Sr b)(ha:0 < a.size)(hb:0 < b.size)(h1:K b (b.size - 1)<=K a (a.size - 1))(h2:∀i,i < a.size->K b 0<=K a i)
  (h:∀out st',Mg a b out->Sm st st'->Q out st'):
  wpS (model prog w) A E s (znZ a b) Q st:=by
 refine Jc (wpS_lift (wpAny_rule ⟨rfl,?_⟩));obtain⟨t,q,e⟩:=zbV a0 (show a.size - 1 < a.size by omega);refine Jc (zC e ?_);have v:=InH.start sa sb ha e λ_=>h1;dsimp only;by_cases z1:a.size - 1=0
 ·rw[if_pos (by simpa using z1)];exact Jd (h _ st (v.done sa sb (.inl z1)) (Sm.rfl' _))
 rw[if_neg (by simpa using z1)];by_cases z2:b.size=1
 ·rw[if_pos (by simpa using z2)];exact Jd (h _ st (v.first sa sb z2 h2) (Sm.rfl' _))
 rw[if_neg (by simpa using z2)];refine Jc (wpS_get ?_);refine Jc (wpS_mono (wpS_forRange (I:=λx c st'=>Sm st st'/\∃na nb out mg,c=(none,na,nb,out,mg)/\MiH a b out na nb x) (Q:=λc st'=>Sm st st'/\∃r d,c=(some r,d)/\Mg a b r) ?_ ?_ ⟨Sm.rfl' _,_,_,_,_,rfl,v,by omega,by omega,by omega⟩) ?_)
 ·rintro x c st1 _ _ ⟨sm1,na,nb,out,mg,rfl,m1⟩;dsimp only;refine Jc (wpS_mono (wpS_forRange (I:=λy c st'=>Sm st st'/\∃na nb out ac bc,c=(none,na,nb,out,ac,bc)/\MiH a b out na nb (x+y)) (Q:=λc st'=>Sm st st'/\((∃r d,c=(some r,d)/\Mg a b r)\/∃na nb out ac bc,c=(none,na,nb,out,ac,bc)/\MiH a b out na nb x)) ?_ ?_ ⟨sm1,_,_,_,_,_,rfl,m1⟩) ?_)
  ·rintro y c st2 _ _ ⟨sm2,na,nb,out,ac,bc,rfl,m2⟩;have ⟨v,a1,b1,pr⟩:=m2;have la:=v.la;have lb:=v.lb;obtain⟨tb,qb,eb⟩:=zbV b0 (show nb - 1 < b.size by omega);obtain⟨ta,qa,ea⟩:=zbV a0 (show na - 1 < a.size by omega);dsimp only;refine Jc (zC eb (Jc (zC ea (Jc (zfR (by rw[sm2.kd];exact hk) rfl rfl ?_)))));dsimp only;by_cases z:K b (nb - 1) < K a (na - 1)
   ·rw[if_pos (decide_eq_true z)];refine Jc (zC ea ?_);have v':=v.one sa sb ea a1 λ_=>Jp z;by_cases z3:na - 1=0
    ·rw[if_pos (by simpa using z3)];exact Jd ⟨sm2,.inl ⟨_,_,rfl,v'.done sa sb (.inl z3)⟩⟩
    rw[if_neg (by simpa using z3)];split
    ·exact Jd ⟨sm2,.inr ⟨_,_,_,_,_,rfl,v',by omega,by omega,by omega⟩⟩
    ·exact Jd ⟨sm2,_,_,_,_,_,rfl,v',by omega,by omega,by omega⟩
   ·rw[if_neg (by simpa using z)];refine Jc (zC eb ?_);have v':=(v.swap.one sb sa eb (by omega) λ_=>Int.not_lt.mp z).swap;by_cases z3:nb - 1=1
    ·rw[if_pos (by simpa using z3)];exact Jd ⟨sm2,.inl ⟨_,_,rfl,v'.first sa sb z3 h2⟩⟩
    rw[if_neg (by simpa using z3)];split
    ·exact Jd ⟨sm2,.inr ⟨_,_,_,_,_,rfl,v',by omega,by omega,by omega⟩⟩
    ·exact Jd ⟨sm2,_,_,_,_,_,rfl,v',by omega,by omega,by omega⟩
  ·rintro c st2 ⟨sm2,na,nb,out,ac,bc,rfl,m2⟩;have pr:=m2.pr;exact⟨sm2,.inr ⟨_,_,_,_,_,rfl,m2.v,m2.a1,m2.b1,by omega⟩⟩
  ·rintro c st2 ⟨sm2,⟨r,d,rfl,m2⟩ | ⟨na,nb,out,ac,bc,rfl,m2⟩⟩
   ·exact Jd ⟨sm2,_,_,rfl,m2⟩
   dsimp only;refine Jc (wpS_lift (wpAny_rule ⟨rfl,?_⟩));refine Jc (wpS_mono (wpS_forRange (I:=λy c st'=>Sm st st'/\∃na nb out mg ac bc,c=(none,na,nb,out,mg,ac,bc)/\MiH a b out na nb (x+y)) (Q:=λc st'=>Sm st st'/\((∃r d,c=(some r,d)/\Mg a b r)\/∃na nb out mg ac bc,c=(none,na,nb,out,mg,ac,bc)/\MiH a b out na nb (x+1))) ?_ ?_ ⟨sm2,_,_,_,_,_,_,rfl,m2⟩) ?_)
   ·rintro y c st3 _ _ ⟨sm3,na,nb,out,mg,ac,bc,rfl,m3⟩;have ⟨v,a1,b1,pr⟩:=m3;have la:=v.la;have lb:=v.lb;obtain⟨tb,qb,eb⟩:=zbV b0 (show nb - 1 < b.size by omega);dsimp only;by_cases z0:mg > 1
    all_goals
     first | rw[if_pos z0] | rw[if_neg z0]
     refine Jc (wpS_modify ?_);have sm4:∀g,Sm st (SortSt.mk' (kindOf st3) (arrOf st3) (pendingOf st3) g (failedOf st3)):=λ_=>⟨sm3.kd,sm3.ar,sm3.pn,sm3.fl⟩;refine Jc (zC eb ?_);refine Jc (zaC (by show kindOf st3=_;rw[sm3.kd];exact hk) rfl a0 (by omega) (by omega) (λi j g1 g2=>sa _ _ (by omega) (by omega)) λk k1 k2 k3=>?_);dsimp only;have w2:∀i,k<=i->i < na->K b (nb - 1)<=K a i:=λi g1 g2=>by have:=k3 i g1 g2;rw[Nat.zero_add] at this;exact Jp (by simpa [bey] using this)
     have j3:0 < k->K a (k - 1)<=K b (nb - 1):=λg=>by have:=k2 (k - 1) (by omega);rw[Nat.zero_add] at this;simpa [bey] using this
     by_cases z3:na - k > 0
     ·rw[if_pos z3];have v1:=v.app sa k (by omega) λi g1 g2 j g3=>Jv (sb _ _ (by omega) (by omega)) (w2 i g1 g2);by_cases z4:k=0
      ·rw[if_pos (by simpa using z4)];exact Jd ⟨sm4 _,.inl ⟨_,_,rfl,v1.done sa sb (.inl z4)⟩⟩
      rw[if_neg (by simpa using z4)];refine Jc (zC eb ?_);have v2:=(v1.swap.one sb sa eb (by omega) λz=>j3 z).swap;by_cases z5:nb - 1=1
      ·rw[if_pos (by simpa using z5)];exact Jd ⟨sm4 _,.inl ⟨_,_,rfl,v2.first sa sb z5 h2⟩⟩
      rw[if_neg (by simpa using z5)];obtain⟨ta,qa,ea⟩:=zbV a0 (show k - 1 < a.size by omega);refine Jc (zC ea ?_);refine Jc (zaC (by show kindOf st3=_;rw[sm3.kd];exact hk) rfl b0 (by omega) (by omega) (λi j g1 g2=>sb _ _ (by omega) (by omega)) λk' k1' k2' k3'=>?_);dsimp only;have w3:∀i,k'<=i->i < nb - 1->K a (k - 1)<=K b i:=λi g1 g2=>by have:=k3' i g1 g2;rw[Nat.zero_add] at this;simpa [bey] using this
      have k3':0 < k'->K b (k' - 1)<=K a (k - 1):=λg=>by have:=k2' (k' - 1) (by omega);rw[Nat.zero_add] at this;exact Jp (by simpa [bey] using this)
      by_cases z6:nb - 1 - k' > 0
      ·rw[if_pos z6];have v3:=(v2.swap.app sb k' (by omega) λi g1 g2 j g3=>Jv (sa _ _ (by omega) (by omega)) (w3 i g1 g2)).swap;by_cases z8:k'=1
       ·rw[if_pos (by simpa using z8)];exact Jd ⟨sm4 _,.inl ⟨_,_,rfl,v3.first sa sb z8 h2⟩⟩
       rw[if_neg (by simpa using z8)];by_cases z9:k'=0
       ·rw[if_pos (by simpa using z9)];exact Jd ⟨sm4 _,.inl ⟨_,_,rfl,v3.done sa sb (.inr z9)⟩⟩
       rw[if_neg (by simpa using z9)];refine Jc (zC ea ?_);have v4:=v3.one sa sb ea (by omega) λz=>k3' z;by_cases z7:k - 1=0
       ·rw[if_pos (by simpa using z7)];exact Jd ⟨sm4 _,.inl ⟨_,_,rfl,v4.done sa sb (.inl z7)⟩⟩
       rw[if_neg (by simpa using z7)];split
       ·exact Jd ⟨sm4 _,.inr ⟨_,_,_,_,_,_,rfl,v4,by omega,by omega,by omega⟩⟩
       ·exact Jd ⟨sm4 _,_,_,_,_,_,_,rfl,v4,by omega,by omega,by omega⟩
      ·rw[if_neg z6];have z9:k'=nb - 1:=by omega
       subst z9;have v3:=v2;refine Jc (zC ea ?_);have v4:=v3.one sa sb ea (by omega) λz=>k3' z;by_cases z7:k - 1=0
       ·rw[if_pos (by simpa using z7)];exact Jd ⟨sm4 _,.inl ⟨_,_,rfl,v4.done sa sb (.inl z7)⟩⟩
       rw[if_neg (by simpa using z7)];split
       ·exact Jd ⟨sm4 _,.inr ⟨_,_,_,_,_,_,rfl,v4,by omega,by omega,by omega⟩⟩
       ·exact Jd ⟨sm4 _,_,_,_,_,_,_,rfl,v4,by omega,by omega,by omega⟩
     ·rw[if_neg z3];have z4:k=na:=by omega
      subst z4;have v1:=v;refine Jc (zC eb ?_);have v2:=(v1.swap.one sb sa eb (by omega) λz=>j3 z).swap;by_cases z5:nb - 1=1
      ·rw[if_pos (by simpa using z5)];exact Jd ⟨sm4 _,.inl ⟨_,_,rfl,v2.first sa sb z5 h2⟩⟩
      rw[if_neg (by simpa using z5)];obtain⟨ta,qa,ea⟩:=zbV a0 (show k - 1 < a.size by omega);refine Jc (zC ea ?_);refine Jc (zaC (by show kindOf st3=_;rw[sm3.kd];exact hk) rfl b0 (by omega) (by omega) (λi j g1 g2=>sb _ _ (by omega) (by omega)) λk' k1' k2' k3'=>?_);dsimp only;have w3:∀i,k'<=i->i < nb - 1->K a (k - 1)<=K b i:=λi g1 g2=>by have:=k3' i g1 g2;rw[Nat.zero_add] at this;simpa [bey] using this
      have k3':0 < k'->K b (k' - 1)<=K a (k - 1):=λg=>by have:=k2' (k' - 1) (by omega);rw[Nat.zero_add] at this;exact Jp (by simpa [bey] using this)
      by_cases z6:nb - 1 - k' > 0
      ·rw[if_pos z6];have v3:=(v2.swap.app sb k' (by omega) λi g1 g2 j g3=>Jv (sa _ _ (by omega) (by omega)) (w3 i g1 g2)).swap;by_cases z8:k'=1
       ·rw[if_pos (by simpa using z8)];exact Jd ⟨sm4 _,.inl ⟨_,_,rfl,v3.first sa sb z8 h2⟩⟩
       rw[if_neg (by simpa using z8)];by_cases z9:k'=0
       ·rw[if_pos (by simpa using z9)];exact Jd ⟨sm4 _,.inl ⟨_,_,rfl,v3.done sa sb (.inr z9)⟩⟩
       rw[if_neg (by simpa using z9)];refine Jc (zC ea ?_);have v4:=v3.one sa sb ea (by omega) λz=>k3' z;by_cases z7:k - 1=0
       ·rw[if_pos (by simpa using z7)];exact Jd ⟨sm4 _,.inl ⟨_,_,rfl,v4.done sa sb (.inl z7)⟩⟩
       rw[if_neg (by simpa using z7)];split
       ·exact Jd ⟨sm4 _,.inr ⟨_,_,_,_,_,_,rfl,v4,by omega,by omega,by omega⟩⟩
       ·exact Jd ⟨sm4 _,_,_,_,_,_,_,rfl,v4,by omega,by omega,by omega⟩
      ·rw[if_neg z6];have z9:k'=nb - 1:=by omega
       subst z9;have v3:=v2;refine Jc (zC ea ?_);have v4:=v3.one sa sb ea (by omega) λz=>k3' z;by_cases z7:k - 1=0
       ·rw[if_pos (by simpa using z7)];exact Jd ⟨sm4 _,.inl ⟨_,_,rfl,v4.done sa sb (.inl z7)⟩⟩
       rw[if_neg (by simpa using z7)];split
       ·exact Jd ⟨sm4 _,.inr ⟨_,_,_,_,_,_,rfl,v4,by omega,by omega,by omega⟩⟩
       ·exact Jd ⟨sm4 _,_,_,_,_,_,_,rfl,v4,by omega,by omega,by omega⟩
   ·rintro c st3 ⟨sm3,na,nb,out,mg,ac,bc,rfl,m3⟩;refine⟨sm3,.inr ⟨_,_,_,_,_,_,rfl,m3.v,m3.a1,m3.b1,?_⟩⟩;have:=m3.pr;omega
   ·rintro c st3 ⟨sm3,⟨r,d,rfl,m3⟩ | ⟨na,nb,out,mg,ac,bc,rfl,m3⟩⟩
    ·exact Jd ⟨sm3,_,_,rfl,m3⟩
    dsimp only;refine Jc (wpS_modify (Jd ?_));exact⟨⟨sm3.kd,sm3.ar,sm3.pn,sm3.fl⟩,_,_,_,_,rfl,m3⟩
 ·rintro c st1 ⟨sm1,na,nb,out,mg,rfl,m1⟩;have:=m1.pr;have:=m1.a1;have:=m1.b1;omega
 ·rintro c st1 ⟨sm1,r,d,rfl,m1⟩;exact Jd (h _ _ m1 sm1)
end
def SrI (xs:QL)(lo n:Nat):Prop:=∀i j,lo<=i->i<=j->j < lo+n->K xs i<=K xs j
def NoI (xs:QL)(lo n:Nat):Prop:=∀i j,lo<=i->i<=j->j < lo+n->K xs j<=K xs i
structure Bs (a₀:QL)(st₀ st:SortSt)(lo:Nat):Prop where
 perm:(arrOf st).Perm a₀
 kd:kindOf st=oneType'
 fl:failedOf st=none
 pn:pendingOf st=pendingOf st₀
 pf:∀i,i < lo->K (arrOf st) i=K (arrOf st₀) i
theorem Bs.size {a₀:QL}{st₀ st:SortSt}{lo:Nat}(B:Bs a₀ st₀ st lo):(arrOf st).size=a₀.size:=B.perm.size_eq
def Bs.ints {a₀:QL}{st₀ st:SortSt}{lo:Nat}(B:Bs a₀ st₀ st lo)(h0:IntKeys a₀):IntKeys (arrOf st):=λp hp=>h0 p ((Array.perm_iff_toList_perm.mp B.perm).mem_iff.mp hp)
section
variable {prog:Program}{w:World}{A:Around}{E:QC}{s:Shared}{a₀:QL}{st₀:SortSt}{lo:Nat}
def zbk {st:SortSt}{i j:Nat}{Q:Option Bool->SortSt->Prop}(B:Bs a₀ st₀ st lo)(h0:IntKeys a₀)(hi:i < a₀.size)(hj:j < a₀.size)(h:Q (some (decide (K (arrOf st) i < K (arrOf st) j))) st):wpS (model prog w) A E s (ltAt' i j) Q st:=by obtain⟨t,p,e1⟩:=zbV (B.ints h0) (show i < (arrOf st).size by rw[B.size];exact hi);obtain⟨u,q,e2⟩:=zbV (B.ints h0) (show j < (arrOf st).size by rw[B.size];exact hj);exact wpS_ltAt B.kd e1 e2 h
abbrev revd (st:SortSt)(i j:Nat):SortSt:=setArr st (mirror (arrOf st) i j ((j - i) / 2))
def zbm {st:SortSt}{i j:Nat}{Q:Unit->SortSt->Prop}(h:Q () (revd st i j)):wpS (model prog w) A E s (reverseSlice' i j) Q st:=by rw[reverseSlice'_eq];exact wpS_modify h
def Bs.rev {st:SortSt}{i j:Nat}(B:Bs a₀ st₀ st lo)(h1:lo<=i)(h2:j<=a₀.size):Bs a₀ st₀ (revd st i j) lo:=
 ⟨(mirror_perm _ _ _ _).trans B.perm,B.kd,B.fl,B.pn,λm hm=>by show K (mirror (arrOf st) i j ((j - i) / 2)) m=_;rw[K_mirror (by rw[B.size];exact h2),if_neg (by omega)];exact B.pf m hm⟩
def zhH {st:SortSt}{m:Nat}(h:NoI (arrOf st) lo m)(hs:lo+m<=(arrOf st).size):SrI (arrOf (revd st lo (lo+m))) lo m:=λi j g1 g2 g3=>by show K (mirror (arrOf st) lo (lo+m) ((lo+m - lo) / 2)) i<=K (mirror (arrOf st) lo (lo+m) ((lo+m - lo) / 2)) j;rw[K_mirror hs,K_mirror hs,if_pos (by omega),if_pos (by omega)];exact h _ _ (by omega) (by omega) (by omega)
def zdj {st:SortSt}{a nrem:Nat}{f:Nat->Option (Option Nat) ×Nat->StateT SortSt Sem (ForInStep (Option (Option Nat) ×Nat))}{R:Option (Option Nat) ×Nat->SortSt->Prop}(ha:1<=a)(han:a<=nrem)(hs:SrI (arrOf st) lo a)
  (s1:∀x T,x < nrem->1<=x->(K (arrOf st) (lo+x) < K (arrOf st) (lo+x - 1)->T (.done (none,x)) st)->(¬K (arrOf st) (lo+x) < K (arrOf st) (lo+x - 1)->T (.yield (none,x+1)) st)->wpS (model prog w) A E s (f x (none,x)) T st)
  (hR:∀n,a<=n->n<=nrem->SrI (arrOf st) lo n->(n=nrem\/K (arrOf st) (lo+n) < K (arrOf st) (lo+n - 1))->R (none,n) st):wpS (model prog w) A E s (forIn [a:nrem] (none,a) f) R st:=by
 refine wpS_forRange (I:=λx c st'=>st'=st/\c=(none,x)/\SrI (arrOf st) lo x) ?_ ?_ ⟨rfl,rfl,hs⟩
 ·rintro x c st' hx hn ⟨rfl,rfl,g⟩;refine s1 x _ hn (by omega) (λz=>hR x hx (by omega) g (.inr z)) λz=>⟨rfl,rfl,λi j h1 h2 h3=>?_⟩;by_cases y:j < lo+x
  ·exact g i j h1 h2 y
  ·have:j=lo+x:=by omega
   subst this;by_cases y':i=lo+x
   ·subst y';exact Jx _
   ·exact Jv (g i (lo+x - 1) h1 (by omega) (by omega)) (Int.not_lt.mp z)
 ·rintro c st' ⟨rfl,rfl,g⟩;rw[show max a nrem=nrem by omega] at g ⊢;exact hR nrem han (Jb _) g (.inl rfl)
def zhh {st:SortSt}{n nrem:Nat}{f:Nat->Option (Option Nat) ×Nat ×Nat->StateT SortSt Sem (ForInStep (Option (Option Nat) ×Nat ×Nat))}{R:Option (Option Nat) ×Nat ×Nat->SortSt->Prop}(B:Bs a₀ st₀ st lo)(hn:lo+nrem<=a₀.size)(h1:1<=n)(hnn:n<=nrem)(hs:NoI (arrOf st) lo n)
  (s1:∀x q st' T,Bs a₀ st₀ st' lo->x < nrem->q+1<=x->
   (K (arrOf st') (lo+x) < K (arrOf st') (lo+x - 1)->q > 0->T (.yield (none,x+1,0)) (revd st' (lo+x - (q+1)) (lo+x)))->
   (K (arrOf st') (lo+x) < K (arrOf st') (lo+x - 1)->¬q > 0->T (.yield (none,x+1,0)) st')->
   (K (arrOf st') (lo+x - 1) < K (arrOf st') (lo+x)->T (.done (none,x,q)) st')->
   (K (arrOf st') (lo+x)=K (arrOf st') (lo+x - 1)->T (.yield (none,x+1,q+1)) st')->wpS (model prog w) A E s (f x (none,x,q)) T st')
  (hR:∀m q st',Bs a₀ st₀ st' lo->n<=m->m<=nrem->NoI (arrOf st') lo m->q+1<=m->(∀i,lo+m - (q+1)<=i->i < lo+m->K (arrOf st') i=K (arrOf st') (lo+m - 1))->R (none,m,q) st'):
  wpS (model prog w) A E s (forIn [n:nrem] (none,n,0) f) R st:=by
 refine wpS_forRange (I:=λx c st'=>∃q,c=(none,x,q)/\Bs a₀ st₀ st' lo/\NoI (arrOf st') lo x/\q+1<=x/\∀i,lo+x - (q+1)<=i->i < lo+x->K (arrOf st') i=K (arrOf st') (lo+x - 1)) ?_ ?_ ⟨0,rfl,B,hs,by omega,λi a b=>by congr 1;omega⟩
 ·rintro x c st' hx hl ⟨q,rfl,B',g,hq,he⟩;have grow:∀xs:Array Keyed,(∀k,K xs k=K (arrOf st') k)->K (arrOf st') (lo+x)<=K (arrOf st') (lo+x - 1)->NoI xs lo (x+1):=λxs ek z i j h1 h2 h3=>by
   rw[ek,ek];by_cases y:j < lo+x
   ·exact g i j h1 h2 y
   ·have:j=lo+x:=by omega
    subst this;by_cases y':i=lo+x
    ·subst y';exact Jx _
    ·exact Jv z (g i (lo+x - 1) h1 (by omega) (by omega))
  have sz:=B'.size;refine s1 x q st' _ B' hl hq (λz z'=>?_) (λz z'=>?_) (λz=>?_) λz=>?_
  ·exact⟨0,rfl,B'.rev (by omega) (by omega),grow _ (K_mirror_equal (by rw[sz];omega) he) (Jp z),by omega,λi a b=>by congr 1;omega⟩
  ·exact⟨0,rfl,B',grow _ (λ_=>rfl) (Jp z),by omega,λi a b=>by congr 1;omega⟩
  ·exact hR x q st' B' hx (by omega) g hq he
  ·refine⟨q+1,rfl,B',grow _ (λ_=>rfl) (Int.le_of_eq z),by omega,λi a b=>?_⟩;rw[show lo+(x+1) - 1=lo+x by omega];by_cases y:i=lo+x
   ·rw[y]
   ·rw[z];exact he i (by omega) (by omega)
 ·rintro c st' ⟨q,rfl,B',g,hq,he⟩;rw[show max n nrem=nrem by omega] at g hq he ⊢;exact hR nrem q st' B' hnn (Jb _) g hq he
def zjJ {st:SortSt}{nrem:Nat}{Q:Option Nat->SortSt->Prop}(h0:IntKeys a₀)(B:Bs a₀ st₀ st lo)(hn:lo+nrem<=a₀.size)(h1:1<=nrem)
  (h:∀m st',Bs a₀ st₀ st' lo->1<=m->m<=nrem->SrI (arrOf st') lo m->Q (some m) st'):wpS (model prog w) A E s (countRun' lo nrem) Q st:=by
 refine Jc (zdj (lo:=lo) (Jb 1) h1 (λi j a b c=>by rw[show i=j by omega];exact Jx _) (λx T g1 g2 q1 q2=>?_) λn n1 n2 sn ho=>?_)
 ·refine Jc (zbk B h0 (by omega) (by omega) ?_);by_cases z:K (arrOf st) (lo+x) < K (arrOf st) (lo+x - 1)
  ·rw[decide_eq_true z];exact Jd (q1 z)
  ·rw[Je z];exact Jd (q2 z)
 dsimp only;by_cases z1:n=nrem
 ·rw[if_pos (by simpa using z1)];exact Jd (h n st B n1 n2 sn)
 rw[if_neg (by simpa using z1)];have z2:=ho.resolve_left z1;by_cases z3:n > 1
 ·rw[if_pos z3];refine Jc (zbk B h0 (by omega) (by omega) ?_);dsimp only;by_cases z4:K (arrOf st) lo < K (arrOf st) (lo+n - 1)
  ·rw[if_pos (decide_eq_true z4)];exact Jd (h n st B n1 n2 sn)
  rw[if_neg (by simpa using z4)];refine Jc (zbm ?_);have all:∀k,lo<=k->k < lo+n->K (arrOf st) k=K (arrOf st) (lo+n - 1):=λk y1 y2=>by have y3:=sn lo k (Jb _) y1 y2;have y4:=sn k (lo+n - 1) y1 (by omega) (by omega);omega
  have B3:=B.rev (Jb lo) (show lo+n<=a₀.size by omega);have N3:NoI (arrOf (revd st lo (lo+n))) lo (n+1):=λi j y1 y2 y3=>by
   show K (mirror _ _ _ _) j<=K (mirror _ _ _ _) i;rw[K_mirror_equal (by have:=B.size;omega) all,K_mirror_equal (by have:=B.size;omega) all];by_cases y4:j < lo+n
   ·rw[all i (by omega) (by omega),all j (by omega) y4];exact Jx _
   ·have y5:j=lo+n:=by omega
    subst y5;by_cases y6:i=lo+n
    ·rw[y6];exact Jx _
    ·rw[all i (by omega) (by omega)];exact Jp z2
  refine Jc (wpS_lift (wpAny_rule ⟨rfl,?_⟩));refine Jc (zhh (lo:=lo) B3 hn (n:=n+1) (by omega) (by omega) N3 (λx q st' T B' g1 g2 t1 t2 t3 t4=>?_) λm q st' B' g1 g2 g3 g4 g5=>?_)
  ·refine Jc (zbk (i:=lo+x) (j:=lo+x - 1) B' h0 (by omega) (by omega) ?_);dsimp only;by_cases z:K (arrOf st') (lo+x) < K (arrOf st') (lo+x - 1)
   ·rw[if_pos (decide_eq_true z)];by_cases z':q > 0
    ·rw[if_pos z'];exact Jc (zbm (Jd (t1 z z')))
    ·rw[if_neg z'];exact Jd (t2 z z')
   ·rw[if_neg (by simpa using z)];refine Jc (zbk (i:=lo+x - 1) (j:=lo+x) B' h0 (by omega) (by omega) ?_);dsimp only;by_cases z':K (arrOf st') (lo+x - 1) < K (arrOf st') (lo+x)
    ·rw[if_pos (decide_eq_true z')];exact Jd (t3 z')
    ·rw[if_neg (by simpa using z')];exact Jd (t4 (by omega))
  ·dsimp only;by_cases z':q > 0
   ·rw[if_pos z'];refine Jc (zbm ?_);have B4:=B'.rev (show lo<=lo+m - (q+1) by omega) (show lo+m<=a₀.size by omega);have N4:NoI (arrOf (revd st' (lo+m - (q+1)) (lo+m))) lo m:=λi j y1 y2 y3=>by show K (mirror _ _ _ _) j<=K (mirror _ _ _ _) i;rw[K_mirror_equal (by have:=B'.size;omega) g5,K_mirror_equal (by have:=B'.size;omega) g5];exact g3 i j y1 y2 y3
    refine Jc (zbm ?_);have B5:=B4.rev (Jb lo) (show lo+m<=a₀.size by omega);refine Jc (zdj (lo:=lo) (show 1<=m by omega) (show m<=nrem by omega) (zhH N4 (by have:=B4.size;omega)) (λx T e1 e2 q1 q2=>?_) λn' n1' n2' sn' _=>Jd (h n' _ B5 (by omega) n2' sn'))
    ·refine Jc (zbk (i:=lo+x) (j:=lo+x - 1) B5 h0 (by omega) (by omega) ?_);cases z:decide (K (arrOf (revd (revd st' (lo+m - (q+1)) (lo+m)) lo (lo+m))) (lo+x) < K (arrOf (revd (revd st' (lo+m - (q+1)) (lo+m)) lo (lo+m))) (lo+x - 1)) with
     | true=>exact Jd (q1 (Ju z))
     | false=>exact Jd (q2 (JB z))
   ·rw[if_neg z'];refine Jc (zbm ?_);have B5:=B'.rev (Jb lo) (show lo+m<=a₀.size by omega);refine Jc (zdj (lo:=lo) (show 1<=m by omega) (show m<=nrem by omega) (zhH g3 (by have:=B'.size;omega)) (λx T e1 e2 q1 q2=>?_) λn' n1' n2' sn' _=>Jd (h n' _ B5 (by omega) n2' sn'))
    ·refine Jc (zbk (i:=lo+x) (j:=lo+x - 1) B5 h0 (by omega) (by omega) ?_);cases z:decide (K (arrOf (revd st' lo (lo+m))) (lo+x) < K (arrOf (revd st' lo (lo+m))) (lo+x - 1)) with
     | true=>exact Jd (q1 (Ju z))
     | false=>exact Jd (q2 (JB z))
 ·rw[if_neg z3];have N3:NoI (arrOf st) lo (n+1):=λi j y1 y2 y3=>by
   by_cases y6:i=j
   ·rw[y6];exact Jx _
   ·have y7:i=lo+n - 1:=by omega
    have y8:j=lo+n:=by omega
    rw[y7,y8];exact Jp z2
  refine Jc (wpS_lift (wpAny_rule ⟨rfl,?_⟩));refine Jc (zhh (lo:=lo) B hn (n:=n+1) (by omega) (by omega) N3 (λx q st' T B' g1 g2 t1 t2 t3 t4=>?_) λm q st' B' g1 g2 g3 g4 g5=>?_)
  ·refine Jc (zbk (i:=lo+x) (j:=lo+x - 1) B' h0 (by omega) (by omega) ?_);dsimp only;by_cases z:K (arrOf st') (lo+x) < K (arrOf st') (lo+x - 1)
   ·rw[if_pos (decide_eq_true z)];by_cases z':q > 0
    ·rw[if_pos z'];exact Jc (zbm (Jd (t1 z z')))
    ·rw[if_neg z'];exact Jd (t2 z z')
   ·rw[if_neg (by simpa using z)];refine Jc (zbk (i:=lo+x - 1) (j:=lo+x) B' h0 (by omega) (by omega) ?_);dsimp only;by_cases z':K (arrOf st') (lo+x - 1) < K (arrOf st') (lo+x)
    ·rw[if_pos (decide_eq_true z')];exact Jd (t3 z')
    ·rw[if_neg (by simpa using z')];exact Jd (t4 (by omega))
  ·dsimp only;by_cases z':q > 0
   ·rw[if_pos z'];refine Jc (zbm ?_);have B4:=B'.rev (show lo<=lo+m - (q+1) by omega) (show lo+m<=a₀.size by omega);have N4:NoI (arrOf (revd st' (lo+m - (q+1)) (lo+m))) lo m:=λi j y1 y2 y3=>by show K (mirror _ _ _ _) j<=K (mirror _ _ _ _) i;rw[K_mirror_equal (by have:=B'.size;omega) g5,K_mirror_equal (by have:=B'.size;omega) g5];exact g3 i j y1 y2 y3
    refine Jc (zbm ?_);have B5:=B4.rev (Jb lo) (show lo+m<=a₀.size by omega);refine Jc (zdj (lo:=lo) (show 1<=m by omega) (show m<=nrem by omega) (zhH N4 (by have:=B4.size;omega)) (λx T e1 e2 q1 q2=>?_) λn' n1' n2' sn' _=>Jd (h n' _ B5 (by omega) n2' sn'))
    ·refine Jc (zbk (i:=lo+x) (j:=lo+x - 1) B5 h0 (by omega) (by omega) ?_);cases z:decide (K (arrOf (revd (revd st' (lo+m - (q+1)) (lo+m)) lo (lo+m))) (lo+x) < K (arrOf (revd (revd st' (lo+m - (q+1)) (lo+m)) lo (lo+m))) (lo+x - 1)) with
     | true=>exact Jd (q1 (Ju z))
     | false=>exact Jd (q2 (JB z))
   ·rw[if_neg z'];refine Jc (zbm ?_);have B5:=B'.rev (Jb lo) (show lo+m<=a₀.size by omega);refine Jc (zdj (lo:=lo) (show 1<=m by omega) (show m<=nrem by omega) (zhH g3 (by have:=B'.size;omega)) (λx T e1 e2 q1 q2=>?_) λn' n1' n2' sn' _=>Jd (h n' _ B5 (by omega) n2' sn'))
    ·refine Jc (zbk (i:=lo+x) (j:=lo+x - 1) B5 h0 (by omega) (by omega) ?_);cases z:decide (K (arrOf (revd st' lo (lo+m))) (lo+x) < K (arrOf (revd st' lo (lo+m))) (lo+x - 1)) with
     | true=>exact Jd (q1 (Ju z))
     | false=>exact Jd (q2 (JB z))
abbrev movd (st:SortSt)(i j:Nat):SortSt:=setArr st (bubble (arrOf st) i (i - j))
def znI {st:SortSt}{i j:Nat}{Q:Unit->SortSt->Prop}(h:Q () (movd st i j)):wpS (model prog w) A E s (moveDown' i j) Q st:=by rw[moveDown'_eq];exact wpS_modify h
def Bs.mov {st:SortSt}{k l:Nat}(B:Bs a₀ st₀ st lo)(h1:l<=k)(h2:lo+k < a₀.size):Bs a₀ st₀ (movd st (lo+k) (lo+l)) lo:=
 ⟨(bubble_perm _ _ _).trans B.perm,B.kd,B.fl,B.pn,λm hm=>by show K (bubble (arrOf st) (lo+k) (lo+k - (lo+l))) m=_;rw[K_bubble (by rw[B.size];exact h2) (by omega),if_neg (by omega),if_neg (by omega)];exact B.pf m hm⟩
def zqp {st:SortSt}{k l:Nat}(g:SrI (arrOf st) lo k)(hs:lo+k < (arrOf st).size)(h1:l<=k)(hlo:∀i,i < l->K (arrOf st) (lo+i)<=K (arrOf st) (lo+k))(hhi:∀i,l<=i->i < k->K (arrOf st) (lo+k) < K (arrOf st) (lo+i)):SrI (arrOf (movd st (lo+k) (lo+l))) lo (k+1):=λi j g1 g2 g3=>by
 show K (bubble (arrOf st) (lo+k) (lo+k - (lo+l))) i<=K (bubble (arrOf st) (lo+k) (lo+k - (lo+l))) j;have hlo':∀i,lo<=i->i < lo+l->K (arrOf st) i<=K (arrOf st) (lo+k):=λi a b=>by have:=hlo (i - lo) (by omega);rwa[show lo+(i - lo)=i by omega] at this
 have hhi':∀i,lo+l<=i->i < lo+k->K (arrOf st) (lo+k)<=K (arrOf st) i:=λi a b=>by have:=hhi (i - lo) (by omega) (by omega);rw[show lo+(i - lo)=i by omega] at this;exact Jp this
 rw[K_bubble hs (by omega),K_bubble hs (by omega),show lo+k - (lo+k - (lo+l))=lo+l by omega]
 repeat' split
 all_goals first
  | (exfalso;omega)
  | exact Jx _
  | exact hlo' _ (by omega) (by omega)
  | exact hhi' _ (by omega) (by omega)
  | exact g _ _ (by omega) (by omega) (by omega)
def znR {st:SortSt}{n ok:Nat}{Q:Bool->SortSt->Prop}(h0:IntKeys a₀)(B:Bs a₀ st₀ st lo)(hn:lo+n<=a₀.size)(hok:ok<=n)(hs:SrI (arrOf st) lo ok)
  (h:∀st',Bs a₀ st₀ st' lo->SrI (arrOf st') lo n->Q true st'):wpS (model prog w) A E s (binarySort' lo n ok) Q st:=by
 refine Jc (wpS_mono (wpS_forRange (I:=λk c st'=>c=(none,())/\Bs a₀ st₀ st' lo/\SrI (arrOf st') lo (min k n)) (Q:=λc st'=>c=(none,())/\Bs a₀ st₀ st' lo/\SrI (arrOf st') lo n) ?_ ?_ ⟨rfl,B,λi j a b c=>?_⟩) ?_)
 ·rintro k c st1 hk1 hk2 ⟨rfl,B1,g⟩;rw[show min k n=k by omega] at g;dsimp only;refine Jc (wpS_mono (wpS_forRange (I:=λx c st'=>st'=st1/\∃l r,c=(none,l,r)/\l<=r/\r<=k/\r - l<=k - x/\(∀i,i < l->K (arrOf st1) (lo+i)<=K (arrOf st1) (lo+k))/\(∀i,r<=i->i < k->K (arrOf st1) (lo+k) < K (arrOf st1) (lo+i)))
   (Q:=λc st'=>st'=st1/\∃l,c=(none,l,l)/\l<=k/\(∀i,i < l->K (arrOf st1) (lo+i)<=K (arrOf st1) (lo+k))/\(∀i,l<=i->i < k->K (arrOf st1) (lo+k) < K (arrOf st1) (lo+i))) ?_ ?_ ⟨rfl,0,k,rfl,by omega,by omega,by omega,λi h=>by omega,λi h1 h2=>by omega⟩) ?_)
  ·rintro x c st2 _ hx ⟨rfl,l,r,rfl,g1,g2,g3,g4,g5⟩;dsimp only;by_cases z:l≥r
   ·rw[if_pos z];have:l=r:=by omega
    subst this;exact Jd ⟨rfl,l,rfl,g2,g4,g5⟩
   rw[if_neg z];refine Jc (zbk (i:=lo+k) (j:=lo+(l+r) / 2) B1 h0 (by omega) (by omega) ?_);dsimp only;by_cases z':K (arrOf st2) (lo+k) < K (arrOf st2) (lo+(l+r) / 2)
   ·rw[if_pos (decide_eq_true z')];exact Jd ⟨rfl,_,_,rfl,by omega,by omega,by omega,g4,λi a b=>Int.lt_of_lt_of_le z' (g _ _ (by omega) (by omega) (by omega))⟩
   ·rw[if_neg (by simpa using z')];exact Jd ⟨rfl,_,_,rfl,by omega,by omega,by omega,λi a=>Jv (g _ _ (by omega) (by omega) (by omega)) (Int.not_lt.mp z'),g5⟩
  ·rintro c st2 ⟨rfl,l,r,rfl,g1,g2,g3,g4,g5⟩;have:l=r:=by omega
   subst this;exact⟨rfl,l,rfl,g2,g4,g5⟩
  ·rintro c st2 ⟨rfl,l,rfl,g2,g4,g5⟩;dsimp only;refine Jc (znI (Jd ⟨rfl,B1.mov g2 (by omega),?_⟩));rw[show min (k+1) n=k+1 by omega];exact zqp g (by rw[B1.size];omega) g2 g4 g5
 ·rintro c st' ⟨hc,B',g⟩;rw[show min (max (max ok 1) n) n=n by omega] at g;exact⟨hc,B',g⟩
 ·by_cases z:ok=0
  ·rw[show i=j by omega];exact Jx _
  ·exact hs i j a b (by omega)
 ·rintro c st' ⟨rfl,B',g⟩;exact Jd (h st' B' g)
end
def lay (sa:Nat)(xs:QL)(l:List (Keyed ×Nat)):Array Keyed:=l.foldl (λa p=>a.setIfInBounds (sa+p.2) p.1) xs
theorem ziP (sa:Nat):∀(l:List Keyed) (k:Nat) (xs:QL),sa+k+l.length<=xs.size->(lay sa xs (l.zipIdx k)).toList=xs.toList.take (sa+k)++l++xs.toList.drop (sa+k+l.length)
 | [],k,xs,h=>by simp[lay]
 | p::l,k,xs,h=>by
  have h':sa+k+(l.length+1)<=xs.size:=h;have e:lay sa xs ((p::l).zipIdx k)=lay sa (xs.setIfInBounds (sa+k) p) (l.zipIdx (k+1)):=rfl;rw[e,ziP sa l (k+1) _ (by rw[Array.size_setIfInBounds];omega),Array.toList_setIfInBounds];have e1:(xs.toList.set (sa+k) p).take (sa+(k+1))=xs.toList.take (sa+k)++ [p]:=by
   rw[show sa+(k+1)=sa+k+1 by omega,List.take_succ,List.take_set_of_le (Jb _),List.getElem?_set_self (by simpa using(by omega:sa+k < xs.size))]
   rfl
  rw[e1,List.drop_set_of_lt (by omega),show sa+(k+1)+l.length=sa+k+(p::l).length by simp;omega];simp
theorem zpQ {xs:QL}{i n m:Nat}(h:i+m < n)(hn:n<=xs.size):K (xs.extract i n) m=K xs (i+m):=by refine K_congr ?_;rw[Array.getElem?_extract,if_pos (by omega)]
def zd8 {xs:QL}(h:IntKeys xs)(i n:Nat):IntKeys (xs.extract i n):=λp hp=>by rw[zad] at hp;exact h p (List.mem_of_mem_take (List.mem_of_mem_drop hp))
structure Dn (a₀:QL)(st:SortSt):Prop where
 perm:(arrOf st).Perm a₀
 fl:failedOf st=none
 pn:(pendingOf st).size<=1
 srt:SortedTo (arrOf st) a₀.size
section
variable {prog:Program}{w:World}{A:Around}{E:QC}{s:Shared}{a₀:QL}
def zmB {x st:SortSt}{Q:PUnit->SortSt->Prop}(h:Q ⟨⟩ x):wpS (model prog w) A E s (set x:StateT SortSt Sem PUnit) Q st:=by unfold wpS;rw[StateT.run_set];exact wpAny_pure ⟨rfl,h⟩
end
def znd {xs ys:QL}{a b:Nat}(h:xs.toList[a]? =ys.toList[b]?):K xs a=K ys b:=K_congr (by simpa using h)
def zjN {xs M:QL}{i m j:Nat}(h1:i<=m)(h2:m<=j)(h3:j<=xs.size)(mg:Mg (xs.extract i m) (xs.extract m j) M):
  (lay i xs M.toList.zipIdx).Perm xs/\(∀a,a < i\/j<=a->K (lay i xs M.toList.zipIdx) a=K xs a)/\(∀a b,i<=a->a<=b->b < j->K (lay i xs M.toList.zipIdx) a<=K (lay i xs M.toList.zipIdx) b)/\(∀b,i<=b->b < j->∃c,i<=c/\c < j/\K (lay i xs M.toList.zipIdx) b=K xs c):=by
 have ml:M.toList.length=j - i:=by have:=mg.1.length_eq;simp only[List.length_append,Array.length_toList,Array.size_extract] at this ⊢;omega
 have e:=ziP i M.toList 0 xs (by omega);rw[Nat.add_zero,ml,show i+(j - i)=j by omega] at e;have ex:xs.toList=xs.toList.take i++((xs.extract i m).toList++(xs.extract m j).toList)++xs.toList.drop j:=by
  have a1:xs.toList=xs.toList.take j++xs.toList.drop j:=(List.take_append_drop _ _).symm;have a2:xs.toList.take j=xs.toList.take m++(xs.toList.take j).drop m:=by have:=(List.take_append_drop m (xs.toList.take j)).symm;rwa[List.take_take,Nat.min_eq_left h2] at this
  have a3:xs.toList.take m=xs.toList.take i++(xs.toList.take m).drop i:=by have:=(List.take_append_drop i (xs.toList.take m)).symm;rwa[List.take_take,Nat.min_eq_left h1] at this
  rw[zad,zad,<-List.append_assoc,<-a3,<-a2,<-a1]
 have lt:(xs.toList.take i).length=i:=by rw[List.length_take,Array.length_toList];omega
 generalize hL:lay i xs M.toList.zipIdx=L at e;have mid:∀b,i<=b->b < j->∃hb:b - i < M.toList.length,K L b=nm M.toList[b - i]:=λb b1 b2=>by
  have hb:b - i < M.toList.length:=by omega
  have hbl:b < L.toList.length:=by rw[e,List.length_append,List.length_append,lt,ml];omega
  refine⟨hb,?_⟩;have q:L.toList[b]? =some M.toList[b - i]:=by rw[e,List.getElem?_append_left (by rw[List.length_append,lt,ml];omega),List.getElem?_append_right (by omega),lt,List.getElem?_eq_getElem hb]
  rw[List.getElem?_eq_getElem hbl] at q;rw[<-zgc hbl,Option.some.inj q]
 refine⟨?_,λa ha=>?_,λa b a1 ab b1=>?_,λb b1 b2=>?_⟩
 ·rw[Array.perm_iff_toList_perm,e]
  conv=>rhs;rw[ex]
  exact(List.Perm.append_left _ mg.1).append_right _
 ·refine znd ?_;rw[e];rcases ha with ha | ha
  ·rw[List.append_assoc,List.getElem?_append_left (by omega),List.getElem?_take_of_lt ha]
  ·rw[List.getElem?_append_right (by rw[List.length_append,lt,ml];omega),List.length_append,lt,ml,List.getElem?_drop];congr 1;omega
 ·obtain⟨g1,e1⟩:=mid a a1 (by omega);obtain⟨g2,e2⟩:=mid b (by omega) b1;rw[e1,e2];by_cases z:a=b
  ·subst z;exact Jx _
  ·exact List.pairwise_iff_getElem.mp mg.2 (a - i) (b - i) g1 g2 (by omega)
 ·obtain⟨g1,e1⟩:=mid b b1 b2;rw[e1];rcases List.mem_append.mp (mg.1.mem_iff.mp (Jm g1)) with hq | hq
  ·obtain⟨c,c1,c2,c3,c4⟩:=zcp hq;exact⟨c,c1,by omega,c4⟩
  ·obtain⟨c,c1,c2,c3,c4⟩:=zcp hq;exact⟨c,by omega,c2,c4⟩
structure Gd (a₀:QL)(st st':SortSt)(i s1 n1 n2:Nat):Prop where
 perm:(arrOf st').Perm a₀
 kd:kindOf st'=oneType'
 fl:failedOf st'=none
 pn:∃pw,pendingOf st'=((pendingOf st).setIfInBounds i (s1,n1+n2,pw)).eraseIdxIfInBounds (i+1)
 srt:SrI (arrOf st') s1 (n1+n2)
 out:∀a,a < s1\/s1+n1+n2<=a->K (arrOf st') a=K (arrOf st) a
section
variable {prog:Program}{w:World}{A:Around}{E:QC}{s:Shared}{a₀:QL}
def zjR {st:SortSt}{i s1 n1 n2 pw p2:Nat}{Q:Bool->SortSt->Prop}(h0:IntKeys a₀)(pm:(arrOf st).Perm a₀)(kd:kindOf st=oneType')(fl:failedOf st=none)(d1:(pendingOf st)[i]? =some (s1,n1,pw))(d2:(pendingOf st)[i+1]? =some (s1+n1,n2,p2))(hn:s1+n1+n2<=a₀.size)(l1:0 < n1)(l2:0 < n2)
  (r1:SrI (arrOf st) s1 n1) (r2:SrI (arrOf st) (s1+n1) n2) (h:∀st',Gd a₀ st st' i s1 n1 n2->Q true st'):wpS (model prog w) A E s (mergeAt' i) Q st:=by
 have sz:(arrOf st).size=a₀.size:=pm.size_eq;have hi:IntKeys (arrOf st):=λp hp=>h0 p ((Array.perm_iff_toList_perm.mp pm).mem_iff.mp hp);obtain⟨k,ar,pe,g,f⟩:=st;change pe[i]? =_ at d1;change pe[i+1]? =_ at d2;change f=none at fl;change k=_ at kd;subst fl;subst kd;change ar.Perm a₀ at pm;change ar.size=_ at sz;change IntKeys ar at hi;change SrI ar s1 n1 at r1;change SrI ar (s1+n1) n2 at r2;refine Jc (wpS_get ?_);dsimp only;rw[d1,d2];dsimp only;refine Jc (zmB ?_);obtain⟨t,q,e1⟩:=zbV hi (show s1+n1 < ar.size by omega);refine Jc (zC e1 ?_);refine Jc (zaC rfl rfl hi (by omega) l1 (λi j g1 g2=>r1 _ _ (by omega) (by omega) (by omega)) λk k1 k2 k3=>?_);dsimp only;have w1:∀i,s1<=i->i < s1+k->K ar i<=K ar (s1+n1):=λi g0 g1=>by have:=k2 (i - s1) (by omega);rw[show s1+(i - s1)=i by omega] at this;simpa [bey] using this
 have w2:∀i,s1+k<=i->i < s1+n1->K ar (s1+n1) < K ar i:=λi g1 g2=>by have:=k3 (i - s1) (by omega) (by omega);rw[show s1+(i - s1)=i by omega] at this;simpa [bey] using this
 by_cases z1:n1 - k=0
 ·rw[if_pos (by simpa using z1)];refine Jd (h _ ⟨pm,rfl,rfl,⟨pw,rfl⟩,λi j g1 g2 g3=>?_,λ_ _=>rfl⟩);show K ar i<=K ar j;by_cases y1:j < s1+n1
  ·exact r1 i j (by omega) g2 (by omega)
  ·by_cases y2:i < s1+n1
   ·exact Jv (w1 i (by omega) (by omega)) (r2 (s1+n1) j (by omega) (by omega) (by omega))
   ·exact r2 i j (by omega) g2 (by omega)
 rw[if_neg (by simpa using z1)];obtain⟨t',q',e2⟩:=zbV hi (show s1+k+(n1 - k) - 1 < ar.size by omega);refine Jc (zC e2 ?_);refine Jc (zaC rfl rfl hi (by omega) (by omega) (λi j g1 g2=>r2 _ _ (by omega) (by omega) (by omega)) λnb j1 j2 j3=>?_);dsimp only;have le:s1+k+(n1 - k) - 1=s1+n1 - 1:=by omega
 rw[le] at j2 j3;have w3:∀i,s1+n1<=i->i < s1+n1+nb->K ar i < K ar (s1+n1 - 1):=λi g1 g2=>by have:=j2 (i - (s1+n1)) (by omega);rw[show s1+n1+(i - (s1+n1))=i by omega] at this;simpa [bey] using this
 have w4:∀i,s1+n1+nb<=i->i < s1+n1+n2->K ar (s1+n1 - 1)<=K ar i:=λi g1 g2=>by have:=j3 (i - (s1+n1)) (by omega) (by omega);rw[show s1+n1+(i - (s1+n1))=i by omega] at this;simpa [bey] using this
 by_cases z2:nb=0
 ·rw[if_pos (by simpa using z2)];refine Jd (h _ ⟨pm,rfl,rfl,⟨pw,rfl⟩,λi j g1 g2 g3=>?_,λ_ _=>rfl⟩);show K ar i<=K ar j;by_cases y1:j < s1+n1
  ·exact r1 i j (by omega) g2 (by omega)
  ·by_cases y2:i < s1+n1
   ·exact Jv (r1 i (s1+n1 - 1) (by omega) (by omega) (by omega)) (w4 j (by omega) (by omega))
   ·exact r2 i j (by omega) g2 (by omega)
 rw[if_neg (by simpa using z2)];have zX:(ar.extract (s1+k) (s1+n1)).size=n1 - k:=by rw[Array.size_extract];omega
 have zY:(ar.extract (s1+n1) (s1+n1+nb)).size=nb:=by rw[Array.size_extract];omega
 have kX:∀i,i < n1 - k->K (ar.extract (s1+k) (s1+n1)) i=K ar (s1+k+i):=λi g=>by rw[zpQ (by omega) (by omega)]
 have kY:∀i,i < nb->K (ar.extract (s1+n1) (s1+n1+nb)) i=K ar (s1+n1+i):=λi g=>by rw[zpQ (by omega) (by omega)]
 have sX:Sr (ar.extract (s1+k) (s1+n1)):=λi j g1 g2=>by rw[zX] at g2;rw[kX i (by omega),kX j g2];exact r1 _ _ (by omega) (by omega) (by omega)
 have sY:Sr (ar.extract (s1+n1) (s1+n1+nb)):=λi j g1 g2=>by rw[zY] at g2;rw[kY i (by omega),kY j g2];exact r2 _ _ (by omega) (by omega) (by omega)
 have fin:∀(M:QL) (st':SortSt),Mg (ar.extract (s1+k) (s1+n1)) (ar.extract (s1+n1) (s1+n1+nb)) M->Sm (SortSt.mk' oneType' ar ((pe.setIfInBounds i (s1,n1+n2,pw)).eraseIdxIfInBounds (i+1)) g none) st'->Gd a₀ (SortSt.mk' oneType' ar pe g none) (setArr st' (lay (s1+k) (arrOf st') M.toList.zipIdx)) i s1 n1 n2:=λM st' mg sm=>by
  obtain⟨l1',l2',l3',l4'⟩:=zjN (i:=s1+k) (m:=s1+n1) (j:=s1+n1+nb) (by omega) (by omega) (by omega) mg;have ar':arrOf st'=ar:=sm.ar;have eA:arrOf (setArr st' (lay (s1+k) (arrOf st') M.toList.zipIdx))=lay (s1+k) ar M.toList.zipIdx:=by show lay (s1+k) (arrOf st') M.toList.zipIdx=_;rw[ar']
  refine⟨by rw[eA];exact l1'.trans pm,sm.kd,sm.fl,⟨pw,sm.pn⟩,λa b g1 g2 g3=>?_,λa ha=>?_⟩
  ·rw[eA];by_cases y1:b < s1+k
   ·rw[l2' a (by omega),l2' b (by omega)];exact r1 a b g1 g2 (by omega)
   by_cases y2:b < s1+n1+nb
   ·by_cases y3:a < s1+k
    ·obtain⟨c,c1,c2,c3⟩:=l4' b (by omega) y2;rw[l2' a (by omega),c3];by_cases y4:c < s1+n1
     ·exact r1 a c g1 (by omega) (by omega)
     ·exact Jv (w1 a g1 y3) (r2 (s1+n1) c (by omega) (by omega) (by omega))
    ·exact l3' a b (by omega) g2 y2
   ·rw[l2' b (by omega)];by_cases y3:a < s1+k
    ·rw[l2' a (by omega)];exact Jv (w1 a g1 y3) (r2 (s1+n1) b (by omega) (by omega) (by omega))
    by_cases y5:a < s1+n1+nb
    ·obtain⟨c,c1,c2,c3⟩:=l4' a (by omega) y5;rw[c3];by_cases y4:c < s1+n1
     ·exact Jv (r1 c (s1+n1 - 1) (by omega) (by omega) (by omega)) (w4 b (by omega) (by omega))
     ·exact r2 c b (by omega) (by omega) (by omega)
    ·rw[l2' a (by omega)];exact r2 a b (by omega) g2 (by omega)
  ·rw[eA];exact l2' a (by omega)
 by_cases z3:n1 - k<=nb
 ·rw[if_pos z3];refine Jc (zh1 rfl (zd8 hi _ _) (zd8 hi _ _) sX sY (by rw[zX];omega) (by rw[zY];omega) (by rw[kX 0 (by omega),kY 0 (by omega)];exact Jp (w2 _ (by omega) (by omega))) (λj g=>by rw[zY] at g;rw[zX,kX _ (by omega),kY j g,show s1+k+(n1 - k - 1)=s1+n1 - 1 by omega];exact Jp (w3 _ (by omega) (by omega))) λM st' mg sm=>?_);refine Jc (wpS_modify (Jc (wpS_get ?_)));have fl':failedOf st'=none:=sm.fl;have e:wpS (model prog w) A E s (pure (failedOf st').isNone) Q (setArr st' (lay (s1+k) (arrOf st') M.toList.zipIdx)):=by rw[fl'];exact Jd (h _ (fin M st' mg sm))
  exact e
 ·rw[if_neg z3];refine Jc (zhG rfl (zd8 hi _ _) (zd8 hi _ _) sX sY (by rw[zX];omega) (by rw[zY];omega) (by rw[zY,zX,kX _ (by omega),kY _ (by omega),show s1+k+(n1 - k - 1)=s1+n1 - 1 by omega];exact Jp (w3 _ (by omega) (by omega))) (λj g=>by rw[zX] at g;rw[kX j g,kY 0 (by omega)];exact Jp (w2 _ (by omega) (by omega))) λM st' mg sm=>?_);refine Jc (wpS_modify (Jc (wpS_get ?_)));have fl':failedOf st'=none:=sm.fl;have e:wpS (model prog w) A E s (pure (failedOf st').isNone) Q (setArr st' (lay (s1+k) (arrOf st') M.toList.zipIdx)):=by rw[fl'];exact Jd (h _ (fin M st' mg sm))
  exact e
end
def Runs (ar:QL):Nat->List (Nat ×Nat ×Nat)->Nat->Prop
 | a,[],b=>a=b
 | a,x::r,b=>x.1=a/\0 < x.2.1/\SrI ar a x.2.1/\Runs ar (a+x.2.1) r b
theorem Runs.le {ar:QL}:∀{l:List (Nat ×Nat ×Nat)} {a b:Nat},Runs ar a l b->a+l.length<=b
 | [],a,b,h=>by have:a=b:=h;simp;omega
 | x::r,a,b,h=>by have:=Runs.le h.2.2.2;have:=h.2.1;rw[List.length_cons];omega
theorem Runs.congr {ar ar':QL}:∀{l:List (Nat ×Nat ×Nat)} {a b:Nat},Runs ar a l b->(∀i,a<=i->i < b->K ar' i=K ar i)->Runs ar' a l b
 | [],a,b,h,_=>h
 | x::r,a,b,h,k=>by have hb:=Runs.le h.2.2.2;refine⟨h.1,h.2.1,λi j g1 g2 g3=>?_,Runs.congr h.2.2.2 λi g1 g2=>k i (by omega) g2⟩;rw[k i (by omega) (by omega),k j (by omega) (by omega)];exact h.2.2.1 i j g1 g2 g3
theorem Runs.split {ar:QL}:∀{l m:List (Nat ×Nat ×Nat)} {a b:Nat},Runs ar a (l++m) b->∃c,Runs ar a l c/\Runs ar c m b
 | [],m,a,b,h=>⟨a,rfl,h⟩
 | x::r,m,a,b,h=>by obtain⟨c,h1,h2⟩:=Runs.split (l:=r) h.2.2.2;exact⟨c,⟨h.1,h.2.1,h.2.2.1,h1⟩,h2⟩
theorem Runs.app {ar:QL}:∀{l m:List (Nat ×Nat ×Nat)} {a b c:Nat},Runs ar a l c->Runs ar c m b->Runs ar a (l++m) b
 | [],m,a,b,c,h,h'=>by have:a=c:=h;subst this;exact h'
 | x::r,m,a,b,c,h,h'=>⟨h.1,h.2.1,h.2.2.1,Runs.app h.2.2.2 h'⟩
structure Gs (a₀:QL)(st:SortSt)(lo:Nat):Prop where
 perm:(arrOf st).Perm a₀
 kd:kindOf st=oneType'
 fl:failedOf st=none
 rn:Runs (arrOf st) 0 (pendingOf st).toList lo
def zhO {l:List (Nat ×Nat ×Nat)}{i:Nat}(h:i+1 < l.length):∃pre x y post,l=pre++x::y::post/\pre.length=i:=by
 refine⟨l.take i,l[i],l[i+1],l.drop (i+2),?_,by rw[List.length_take];omega⟩
 conv=>lhs;rw[<-List.take_append_drop i l]
 rw[Jr (by omega),Jr h]
def zmP {pe:Array (Nat ×Nat ×Nat)}{pre post:List (Nat ×Nat ×Nat)}{x y z:Nat ×Nat ×Nat}(h:pe.toList=pre++x::y::post):((pe.setIfInBounds pre.length z).eraseIdxIfInBounds (pre.length+1)).toList=pre++z::post:=by
 have e1:(pe.setIfInBounds pre.length z).toList=pre++z::y::post:=by rw[Array.toList_setIfInBounds,h];simp
 have e2:((pe.setIfInBounds pre.length z).eraseIdxIfInBounds (pre.length+1)).toList=((pe.setIfInBounds pre.length z).toList).eraseIdx (pre.length+1):=by simp
 rw[e2,e1,List.eraseIdx_append_of_length_le (by omega),show pre.length+1 - pre.length=1 by omega]
 rfl
theorem Gd.size {a₀:QL}{st st':SortSt}{i s1 n1 n2:Nat}{pre post:List (Nat ×Nat ×Nat)}{x y:Nat ×Nat ×Nat}(g:Gd a₀ st st' i s1 n1 n2)(e:(pendingOf st).toList=pre++x::y::post)(ei:pre.length=i):∃pw,(pendingOf st').toList=pre++(s1,n1+n2,pw)::post:=by obtain⟨pw,h⟩:=g.pn;refine⟨pw,?_⟩;rw[h,<-ei];exact zmP e
def ite_le (p:Prop) [Decidable p](a:Nat):(if p then a - 1 else a)<=a:=by split <;> omega
section
variable {prog:Program}{w:World}{A:Around}{E:QC}{s:Shared}{a₀:QL}
def zd0 {st:SortSt}{i lo:Nat}{Q:Bool->SortSt->Prop}(h0:IntKeys a₀)(G:Gs a₀ st lo)(hlo:lo<=a₀.size)(hi:i+1 < (pendingOf st).size)
  (h:∀st',Gs a₀ st' lo->(pendingOf st').size+1=(pendingOf st).size->(∀a,lo<=a->K (arrOf st') a=K (arrOf st) a)->Q true st'):wpS (model prog w) A E s (mergeAt' i) Q st:=by
 obtain⟨pre,x,y,post,e,ei⟩:=zhO (l:=(pendingOf st).toList) (i:=i) (by simpa using hi);have hr:=G.rn;rw[e] at hr;obtain⟨c,rp,rq⟩:=hr.split;obtain⟨x1,x2,x3,y1,y2,y3,ro⟩:=rq;obtain⟨xs,xn,xp⟩:=x;obtain⟨ys,yn,yp⟩:=y;dsimp only at x1 x2 x3 y1 y2 y3 ro;subst x1;subst y1;have hle:=ro.le;have hpl:=rp.le;have g1:(pendingOf st)[i]? =some (xs,xn,xp):=by rw[<-Array.getElem?_toList,e,<-ei,List.getElem?_append_right (Jb _),Nat.sub_self];rfl
 have g2:(pendingOf st)[i+1]? =some (xs+xn,yn,yp):=by rw[<-Array.getElem?_toList,e,<-ei,List.getElem?_append_right (by omega),show pre.length+1 - pre.length=1 by omega];rfl
 refine zjR h0 G.perm G.kd G.fl g1 g2 (by omega) x2 y2 x3 y3 λst' d=>?_;obtain⟨pw,ep⟩:=d.size e ei;refine h st' ⟨d.perm,d.kd,d.fl,?_⟩ ?_ λa ha=>d.out a (by omega)
 ·rw[ep];refine Runs.app (rp.congr λj j1 j2=>d.out j (by omega)) ⟨rfl,by show 0 < xn+yn;omega,d.srt,?_⟩;show Runs (arrOf st') (xs+(xn+yn)) post lo;rw[<-Nat.add_assoc];exact ro.congr λj j1 j2=>d.out j (by omega)
 ·have l1:(pendingOf st').toList.length=pre.length+(1+post.length):=by rw[ep,List.length_append,List.length_cons];omega
  have l2:(pendingOf st).toList.length=pre.length+(2+post.length):=by rw[e,List.length_append,List.length_cons,List.length_cons];omega
  rw[Array.length_toList] at l1 l2;omega
def zdA {st:SortSt}{lo n pw:Nat}(G:Gs a₀ st lo)(hn:0 < n)(hs:SrI (arrOf st) lo n):Gs a₀ (setPending st ((pendingOf st).push (lo,n,pw))) (lo+n):=by refine⟨G.perm,G.kd,G.fl,?_⟩;show Runs (arrOf st) 0 ((pendingOf st).push (lo,n,pw)).toList (lo+n);rw[Array.toList_push];exact G.rn.app ⟨rfl,hn,hs,rfl⟩
def zfq {st:SortSt}{lo pw:Nat}(G:Gs a₀ st lo):Gs a₀ (setPending st ((pendingOf st).modify ((pendingOf st).size - 1) λx=>(x.fst,x.2.fst,pw))) lo:=by
 refine⟨G.perm,G.kd,G.fl,?_⟩;show Runs (arrOf st) 0 ((pendingOf st).modify ((pendingOf st).size - 1) λx=>(x.fst,x.2.fst,pw)).toList lo;have hr:=G.rn;rw[Array.toList_modify];generalize(pendingOf st).size - 1=j;generalize(pendingOf st).toList=l at hr;generalize 0=a at hr
 induction l generalizing a j with
 | nil=>simpa using hr
 | cons x r ih=>
  cases j with
  | zero=>exact⟨hr.1,hr.2.1,hr.2.2.1,hr.2.2.2⟩
  | succ j=>exact⟨hr.1,hr.2.1,hr.2.2.1,ih j _ hr.2.2.2⟩
def zlM {st:SortSt}{Q:Unit->SortSt->Prop}(h0:IntKeys a₀)(hB:SBase a₀ st)
  (h:∀st',(arrOf st').Perm a₀->failedOf st'=none->SortedTo (arrOf st') a₀.size->Q () st'):wpS (model prog w) A E s sortRuns' Q st:=by
 rw[sortRuns'_eq];refine Jc (wpS_get ?_);dsimp only;simp only[hB.size];generalize minRun' a₀.size a₀.size 0=mr;have G0:Gs a₀ st 0:=⟨hB.perm,hB.kind,hB.failed,by rw[hB.pend];rfl⟩;refine Jc (wpS_mono (wpS_forRange
  (I:=λx c st'=>∃lo,c=(none,lo)/\lo<=a₀.size/\Gs a₀ st' lo/\(x<=lo\/lo=a₀.size))
  (Q:=λc st'=>c=(none,a₀.size)/\Gs a₀ st' a₀.size) ?step ?fin ⟨0,rfl,Nat.zero_le _,G0,.inl (Jb _)⟩) ?post)
 case fin=>
  rintro c st' ⟨lo,rfl,hle,G,hx⟩;have:lo=a₀.size:=by omega
  subst this;exact⟨rfl,G⟩
 case step=>
  rintro x c st' _ hx ⟨lo,rfl,hle,G,hxl⟩;dsimp only;by_cases z:lo≥a₀.size
  ·rw[if_pos z];have:lo=a₀.size:=by omega
   subst this;exact Jd ⟨rfl,G⟩
  rw[if_neg z];have B0:Bs a₀ st' st' lo:=⟨G.perm,G.kd,G.fl,rfl,λ_ _=>rfl⟩;refine Jc (zjJ h0 B0 (by omega) (by omega) λm st2 B2 hm1 hm2 hs2=>?_);dsimp only;have toG:∀st2,Bs a₀ st' st2 lo->Gs a₀ st2 lo:=λst2 B2=>⟨B2.perm,B2.kd,B2.fl,by rw[B2.pn];exact G.rn.congr λj _ j2=>B2.pf j j2⟩;by_cases hlt:m < mr
  ·rw[if_pos hlt];refine Jc (wpS_lift (wpAny_rule ⟨rfl,?_⟩));refine Jc (znR h0 B2 (n:=min (a₀.size - lo) mr) (by omega) (by omega) hs2 λst3 B3 hs3=>?_);simp only[Bool.not_true,Bool.false_eq_true,if_false];have G3:=toG st3 B3;have hn1:0 < min (a₀.size - lo) mr:=by omega
   have hn2:lo+min (a₀.size - lo) mr<=a₀.size:=by omega
   generalize min (a₀.size - lo) mr=n at hs3 hn1 hn2;clear B3 B2 hs2;refine Jc (wpS_get ?_);cases hb:(pendingOf st3).back? with
   | none=>dsimp only;refine Jc (wpS_modify (Jd ⟨lo+n,rfl,hn2,zdA G3 hn1 hs3,.inl (by omega)⟩))
   | some p0=>
    obtain⟨s1,n1,pq⟩:=p0;dsimp only;refine Jc (wpS_mono (wpS_forRange (I:=λ_ c st''=>c=(none,())/\Gs a₀ st'' lo/\SrI (arrOf st'') lo n) (Q:=λc st''=>c=(none,())/\Gs a₀ st'' lo/\SrI (arrOf st'') lo n) ?_ (λ_ _ hh=>hh) ⟨rfl,G3,hs3⟩) ?_)
    ·rintro y c st4 _ _ ⟨rfl,G4,hs4⟩;refine Jc (wpS_get ?_);by_cases y1:(pendingOf st4).size > 1
     ·rw[if_pos y1];cases y2:(pendingOf st4)[(pendingOf st4).size - 2]? with
      | none=>exact Jd ⟨rfl,G4,hs4⟩
      | some p1=>
       obtain⟨a1,a2,older⟩:=p1;dsimp only;split
       ·exact Jd ⟨rfl,G4,hs4⟩
       ·refine Jc (zd0 h0 G4 hle (by omega) λst5 G5 _ hk=>?_);simp only[Bool.not_true,Bool.false_eq_true,if_false];exact Jd ⟨rfl,G5,λi j g1 g2 g3=>by rw[hk i g1,hk j (by omega)];exact hs4 i j g1 g2 g3⟩
     ·rw[if_neg y1];exact Jd ⟨rfl,G4,hs4⟩
    ·rintro c st4 ⟨rfl,G4,hs4⟩;dsimp only;refine Jc (wpS_modify (Jc (wpS_modify (Jd ⟨lo+n,rfl,hn2,zdA (zfq G4) hn1 hs4,.inl (by omega)⟩))))
  ·rw[if_neg hlt];have G3:=toG st2 B2;have hn1:0 < m:=by omega
   have hn2:lo+m<=a₀.size:=by omega
   have hs3:=hs2;clear B2 hs2;generalize m=n at hs3 hn1 hn2;generalize st2=st3 at hs3 G3;refine Jc (wpS_get ?_);cases hb:(pendingOf st3).back? with
   | none=>dsimp only;refine Jc (wpS_modify (Jd ⟨lo+n,rfl,hn2,zdA G3 hn1 hs3,.inl (by omega)⟩))
   | some p0=>
    obtain⟨s1,n1,pq⟩:=p0;dsimp only;refine Jc (wpS_mono (wpS_forRange (I:=λ_ c st''=>c=(none,())/\Gs a₀ st'' lo/\SrI (arrOf st'') lo n) (Q:=λc st''=>c=(none,())/\Gs a₀ st'' lo/\SrI (arrOf st'') lo n) ?_ (λ_ _ hh=>hh) ⟨rfl,G3,hs3⟩) ?_)
    ·rintro y c st4 _ _ ⟨rfl,G4,hs4⟩;refine Jc (wpS_get ?_);by_cases y1:(pendingOf st4).size > 1
     ·rw[if_pos y1];cases y2:(pendingOf st4)[(pendingOf st4).size - 2]? with
      | none=>exact Jd ⟨rfl,G4,hs4⟩
      | some p1=>
       obtain⟨a1,a2,older⟩:=p1;dsimp only;split
       ·exact Jd ⟨rfl,G4,hs4⟩
       ·refine Jc (zd0 h0 G4 hle (by omega) λst5 G5 _ hk=>?_);simp only[Bool.not_true,Bool.false_eq_true,if_false];exact Jd ⟨rfl,G5,λi j g1 g2 g3=>by rw[hk i g1,hk j (by omega)];exact hs4 i j g1 g2 g3⟩
     ·rw[if_neg y1];exact Jd ⟨rfl,G4,hs4⟩
    ·rintro c st4 ⟨rfl,G4,hs4⟩;dsimp only;refine Jc (wpS_modify (Jc (wpS_modify (Jd ⟨lo+n,rfl,hn2,zdA (zfq G4) hn1 hs4,.inl (by omega)⟩))))
 case post=>
  rintro c st' ⟨rfl,G⟩;dsimp only;refine Jc (wpS_mono (wpS_forRange (I:=λx c st''=>c=(none,())/\Gs a₀ st'' a₀.size/\((pendingOf st'').size<=1\/(pendingOf st'').size+x<=a₀.size)) (Q:=λc st''=>c=(none,())/\Gs a₀ st'' a₀.size/\(pendingOf st'').size<=1) ?_ ?_ ⟨rfl,G,.inr (by have:=G.rn.le;rw[Array.length_toList] at this;omega)⟩) ?_)
  ·rintro x c st2 _ hx ⟨rfl,G2,hh⟩;refine Jc (wpS_get ?_);by_cases y:(pendingOf st2).size<=1
   ·rw[if_pos y];exact Jd ⟨rfl,G2,y⟩
   rw[if_neg y];refine Jc ?_;have hi:(if (if (pendingOf st2).size - 2 > 0 then Option.map (λx=>x.2.1) (pendingOf st2)[(pendingOf st2).size - 2 - 1]? else none).any (λx=>decide (x < (pendingOf st2)[(pendingOf st2).size - 2+1]?.elim 0 λx=>x.2.1))=true then(pendingOf st2).size - 2 - 1 else(pendingOf st2).size - 2)+1 < (pendingOf st2).size:=Nat.lt_of_le_of_lt (Nat.succ_le_succ (ite_le _ _)) (by omega);refine zd0 h0 G2 (Jb _) hi λst3 G3 hsz _=>?_;simp only[Bool.not_true,Bool.false_eq_true,if_false];exact Jd ⟨rfl,G3,by omega⟩
  ·rintro c st2 ⟨rfl,G2,hh⟩;exact⟨rfl,G2,by omega⟩
  ·rintro c st2 ⟨rfl,G2,hsz⟩;dsimp only;refine Jd (h _ G2.perm G2.fl ?_);have hr:=G2.rn;have hl:(pendingOf st2).toList.length<=1:=by rw[Array.length_toList];exact hsz
   generalize(pendingOf st2).toList=l at hr hl
   match l,hr,hl with
   | [],hr,_=>have:0=a₀.size:=hr;intro i j _ hj;omega
   | [x],hr,_=>obtain⟨_,_,h3,h4⟩:=hr;have h4':0+x.2.1=a₀.size:=h4;intro i j hij hj;exact h3 i j (by omega) hij (by omega)
end
end Ps
set_option maxHeartbeats 4000000
namespace Ps
open PySem PyProof.Rows
section
variable {prog:Program}{w:World}{A:Around}{E:QC}{s:Shared}
def list_sortG {a:Addr}{vs:QN}{ns:List Int}{n:Nat}{P:Fin->Shared->Prop}(ho:s.heap.get? a=some (seqObj "list" vs.toArray n))
  (hI:IntsAre vs ns) (hz:vs.length<=sizeLine)
  (h:∀(out:Array Value) (ns':List Int),IntsAre out.toList ns'->ns'.Perm ns->ns'.Pairwise (· <= ·)->P (.done (.ret .none)) {s with heap:=sortedHeap s.heap a vs out}):
  wpAny (model prog w) A (Builtin.«list.sort» ⟨[.ref a],[]⟩) P E s:=by
 by_cases lt:vs.length < 64
 ·exact list_sort_tree ho hI lt h
 have e64:64<=vs.length:=by omega
 rw[list_sort_plain];have ha:a < s.heap.objs.size:=Heap.lt_size ho;have hsz:vs.toArray.size=vs.length:=by simp
 refine Ja (listItems_at ho rfl ?_);refine Ja (listUpdate_at ho rfl ?_ (hsz:=by rw[hsz];exact hz));obtain⟨e1,ho1⟩:∃e1,(s.heap.update a (Obj.mapSeq λ_=> #[])).get? a=some (seqObj "list" #[] e1):=⟨_,get?_update_seq ho (λ_=> #[])⟩;refine Ja (seqEpoch_at ho1 rfl ?_);refine Ja (wpAny_newTuple ?_ (by rw[List.toList_toArray];exact hz));refine Ja (wpAny_newList ?_);refine wpAny_holding ?_;have ho6:(((s.heap.update a (Obj.mapSeq λ_=> #[])).push (seqObj "tuple" vs.toArray 0)).push (seqObj "list" #[] 0)).get? a=some (seqObj "list" #[] e1):=by
  rw[Heap.get?_push_ne _ _ _ (by rw[size_push',Heap.size_update];exact Jl (Nat.lt_succ_of_lt ha)),Heap.get?_push_ne _ _ _ (by rw[Heap.size_update];exact Jl ha)]
  exact ho1
 show wpAny (model prog w) A _ P E {s with heap:=((s.heap.update a (Obj.mapSeq λ_=> #[])).push (seqObj "tuple" vs.toArray 0)).push (seqObj "list" #[] 0)};dsimp only;have h2:¬vs.toArray.size < 2:=by rw[hsz];omega
 rw[if_neg h2,if_neg h2];have kk:keyKind' vs.toArray=pure oneType':=by
  match vs,hI,e64 with
  | [],_,e=>simp at e
  | [_],_,e=>simp at e
  | v₁::v₂::rest,hI,_=>exact keyKind_ints hI
 rw[kk];refine Ja (wpAny_pure ?_);refine Ja (wpAny_mono (zlM (a₀:=pairsOf vs) (st:=SortSt.mk' oneType' (vs.toArray.zip vs.toArray) #[] 7 none)
  (Q:=λ_ st'=>(arrOf st').Perm (pairsOf vs)/\failedOf st'=none/\SortedTo (arrOf st') (pairsOf vs).size)
  hI.intKeys ⟨Array.Perm.refl _,rfl,rfl,rfl⟩ λst' a1 a2 a3=>⟨a1,a2,a3⟩) ?_ λ_ _ e=>e)
 rintro⟨⟨⟩,st'⟩ s' ⟨rfl,hp,hf,hs⟩;dsimp only;refine Ja (seqEpoch_at ho6 rfl ?_);refine Ja (listUpdate_at ho6 rfl ?_ (hsz2:=by refine Jk (Nat.le_of_eq ((Array.size_map ..).trans (hp.size_eq.trans (pairsOf_size _)))) ?_;omega));rw[hf];simp only[bne_self_eq_false,Bool.false_eq_true,if_false];obtain⟨ns',h1,h2,h3⟩:=sorted_out hI hp hs;exact wpAny_pure (h _ ns' h1 h2 h3)
end
end Ps
namespace L2
open PySem PySem.Spec PyProof.Rows
section
variable {X:Cx}
def zg5 (hc:X.calm=true):zbg X (.builtin "sorted") (λxs H Q=>∃(d:Addr) (kvs:QG),xs=[.ref d]/\H d=some (.dK kvs)/\IntKeys kvs/\
  ∀(l:Addr) (ns:List Int),H l=none->ns.Perm (zb1 kvs)->ns.Pairwise (· <= ·)->Q (.ref l) (upd H l (.lst (ns.map V.int)))):=by
 intro pins s σ H xs us Q I r h;obtain⟨d,kvs,rfl,hd,hi,q⟩:=h;obtain⟨u,rfl,ru⟩:=vals1 r;cases (show u=Value.ref d from ru);obtain⟨hz,lo,vs,rel,hD⟩:=I.hok d _ hd;obtain⟨ep,hat⟩:=hD.dictAt;have hl:=rel.at.1;have hkl:=zem hi;refine Calls.call_function_entry kind_sorted plain_sorted entry_sorted (args_sorted1 _) ?_;unfold Builtin.«sorted»;refine Ja (m:=checkCount "sorted" 1 1 _) (wpAny_pure ?_);refine Ja (gathered (A:=X.A.in1) (PySem.W.kdl_dict (knd:=zal X.prog X.w) (kvs:=vs) (ep:=ep) lo) (show X.A.in1.handled=none from I.ok.hd hc) hat (by rw[<-hl];exact hz) λh' tk acc hk hlt hacc=>?_);have la:acc.toList.length=vs.length:=by rw[Array.length_toList];exact hacc.1
 refine Ja (wpAny_newList ?_ (by rw[la,<-hl];exact hz));have hI:IntsAre acc.toList (zb1 kvs):=zgQ (by omega) λj v e=>by obtain⟨k,x,e1,e2⟩:=hacc.2 j v (by rw[<-Array.getElem?_toList];exact e);obtain⟨t,e3,_⟩:=zfO rel hi e1 e2;exact⟨t,e3⟩
 have hoL:(h'.push (seqObj "list" acc.toList.toArray 0)).get? h'.objs.size=some (seqObj "list" acc.toList.toArray 0):=Heap.get?_push_size _ rfl;refine Ja (wpAny_holding (wpAny_call_entry slot_list_sort ⟨_,hoL,rfl⟩ entry_list_sort (Ps.list_sortG hoL hI (by rw[la,<-hl];exact hz) λout ns' a1 a2 a3=>⟨_,rfl,?_⟩) (args_list_sort _)));refine wpAny_pure ⟨_,rfl,?_⟩;have sz:s.heap.objs.size<=h'.objs.size:=Nat.le_of_lt hlt;have kk:∀b u,s.heap.get? b=some u->(sortedHeap (h'.push (seqObj "list" acc.toList.toArray 0)) h'.objs.size acc.toList out).get? b=some u:=λb u e=>by have e1:=hk b u e;have lt:=Heap.lt_size e1;rw[sortedHeap_old (Jl lt) (by rw[size_push'];exact Nat.lt_succ_of_lt lt)];exact Heap.get?_push_of_some _ e1
 obtain⟨e,he⟩:=sortedHeap_at (out:=out) hoL;have hn:H h'.objs.size=none:=I.hok.fresh sz;refine⟨.ref h'.objs.size,_,I.laid (o:=.lst (ns'.map V.int)) kk sz ⟨?_,out.toList,e,zeT a1,he⟩,rfl,q _ ns' hn a2 a3⟩;rw[List.length_map,a2.length_eq,hkl];exact hz
end
end L2
namespace Pv
open PySem L2
abbrev zh9:Stmt:=top 23
def znT:zr ["laid"] ["laid"] (ze zh9):=L2.fsc (by decide+kernel)
abbrev zbo:Stmt:=inClass (top 25) 0
def zfz:zr ["self"] ["self"] (ze zbo):=L2.fsc (by decide+kernel)
def znj (cs:QF)(H:Hp)(Q:VK):Prop:=∀(l:Addr) (ns:List Int) (xs:QQ) (H':Hp),Same H H'->H l=none->ns.Perm (cs.map (·.1))->ns.Pairwise (· <= ·)->H' l=some (.lst xs)->RepL H' (zw cs ns) xs->Q (.ref l) H'
def zgO:Sp:=λvs H Q _=>∃(d:Addr) (kvs:QG) (cs:QF),vs=[.ref d]/\H d=some (.dK kvs)/\DRep H cs kvs/\cs.length<=1000000/\znj cs H Q
def zgb (C:Addr):Sp:=λvs H Q _=>∃(a d:Addr) (kvs:QG) (cs:QF),vs=[.ref a]/\VOk H C a d kvs/\DRep H cs kvs/\cs.length<=1000000/\znj cs H Q
section
variable {P:Program}{w:World}{K:QA}{mg:QB}{base:Heap}{C CC:Addr}{x:Str}
def zrK {cs:QF}{kvs:QG}{H:Hp}{d l:Addr}{ns:List Int}(r:DRep H cs kvs)(hl:H l=none)(hp:ns.Perm (zb1 kvs)):ns.Perm (cs.map (·.1))/\∀n∈ns,∃t v,zf cs n=some t/\valV kvs (.inl n)=some v/\Rep H t v:=by rw[r.keys.1] at hp;refine⟨hp,λn hn=>?_⟩;obtain⟨t,e⟩:=zdC (hp.subset hn);obtain⟨v,e',rv⟩:=r.some e;exact⟨t,v,e,e',rv⟩
def zlF (D:Dfn K mg "rising" zh9 ["laid"]) (zgU:mg "sorted" =none):Fn P w K mg base "rising" 1 ["laid"] zgO:=by
 refine D.ok (k:=0) znT (λvs H Q E h=>?_) (λf cdv A outer s H vs Q E hr h=>?_)
 ·obtain⟨d,kvs,cs,rfl,_⟩:=h;rfl
 obtain⟨d,kvs,cs,rfl,ed,dr,h64,q⟩:=h;refine⟨_,(zd (zq (zgD (zV.one (y:= "laid") (j:=0) (c:=s.heap.objs.size+1) (by rfl) (by rfl) (by decide+kernel) (by decide+kernel) (by rfl) (by decide+kernel) (by rfl) (by decide+kernel) (by rfl) (by first | exact Or.inl rfl | exact Or.inr rfl) (by first | exact Or.inl rfl | exact Or.inr rfl)) rfl (zcn (zF (zg5 rfl) (by rfl) zgU (by rfl) (za (pv 0) zc))) (λ_ _ _=>zeg) (λ_ _ _=>(zcu (zbv hr) (pv 1) (pv 0) (λ_ _=>rfl)))))),?_⟩;refine⟨_,rfl,d,kvs,rfl,ed,dr.keys.2,λl ns hl hp hs=>?_⟩;obtain⟨hp',all⟩:=zrK (d:=d) dr hl hp;have e1:upd H l (.lst (ns.map V.int)) l=some (.lst (ns.map V.int)):=zg;have s1:Same H (upd H l (.lst (ns.map V.int))):=zv (Same.refl H) hl;generalize upd H l (.lst (ns.map V.int))=H1 at e1 s1;refine⟨l,rfl,⟨_,SqL.of e1⟩,λp hp1=>?_⟩;have hn64:ns.length<=1000000:=by rw[hp'.length_eq,List.length_map];exact h64
 refine zdG (n:=ns.length) (λi acc H'=>Same H1 H'/\H' p=some (.lst acc)/\acc.length=i/\RepL H' (zw cs (ns.take i)) acc) ⟨zv (Same.refl H1) hp1,zg,rfl,.nil⟩ ?_ ?_ ?_ ?_
 ·rintro i acc H' hi ⟨sm,ep,la,rr⟩;exact⟨ns.map V.int,.int ns[i],SqL.of (sm _ _ e1),by rw[List.getElem?_map,List.getElem?_eq_getElem hi];rfl⟩
 ·rintro acc H' ⟨sm,ep,la,rr⟩;exact⟨ns.map V.int,SqL.of (sm _ _ e1),by rw[List.length_map];exact Jb _⟩
 ·rintro i acc H' y H'' hi ⟨sm,ep,la,rr⟩ ⟨z1,z2⟩;subst z1;have ey:=z2 (ns.map V.int) (SqL.of (sm _ _ e1));have ey2:y=V.int ns[i]:=by rw[List.getElem?_map,List.getElem?_eq_getElem hi] at ey;exact(Option.some.inj ey).symm
  subst ey2;obtain⟨t,v,lt,lv,rv⟩:=all ns[i] (Jm hi);have dg:DGet H'' d (.int ns[i]) (some v):=by rw[<-lv];exact DGet.k (k:=Sum.inl ns[i]) (sm _ _ (s1 _ _ ed))
  refine tt1 ?_;refine⟨_,rfl,_,rfl,d,v,rfl,dg,ep,Jg (show acc.length < 1000000 by omega) (by decide+kernel),nxt hi ⟨zbU sm hp1,zg,by rw[List.length_append,la];rfl,?_⟩⟩;have tk:Tups H'' (upd H'' p (.lst (acc++ [v]))):=Tups.upd λxs z=>by rw[ep] at z;cases z
  have ew:zw cs (ns.take (i+1))=zw cs (ns.take i)++ [t]:=by unfold zw;rw[List.take_add_one,List.getElem?_eq_getElem hi,List.map_append];show _++ [(zf cs ns[i]).getD .non]=_;rw[lt];rfl
  rw[ew];exact RepL.snoc ((rv.keep (Same.tups (λb o e=>sm b o (s1 b o e)))).keep tk) (rr.keep tk)
 ·rintro acc H' ⟨sm,ep,la,rr⟩;rw[List.take_length] at rr;refine q p ns acc H' (λb o e=>sm b o (s1 b o e)) ?_ hp' hs ep rr;cases z:H p with
  | none=>rfl
  | some o=>rw[s1 _ _ z] at hp1;cases hp1
def zl1 (D:Mdf K C "things" "Keeper.things" zbo ["self"]) (zgV:Fn P w K mg base "rising" 1 ["laid"] zgO) (c:Cls K C) (nl:zE K C "laid"):Mt P w K mg base CX0 C "things" 2 ["self"] (zgb C):=by
 refine D.ok (k:=1) zfz (λvs H Q E h=>?_) (λf cdv A outer s H vs Q E hr h=>?_)
 ·obtain⟨a,d,kvs,cs,rfl,_⟩:=h;rfl
 obtain⟨a,d,kvs,cs,rfl,⟨⟨dx,fs,eo,fl⟩,ed⟩,dr,h64,q⟩:=h;exact⟨_,(zd (zq (zK zgV hr (by omega) (by rfl) (za (zaJ (pv 0) (by rfl)) zc)))),_,rfl,a,C,dx,_,_,rfl,eo,c,nl,fl.la,d,kvs,cs,rfl,ed,dr,h64,q⟩
end
abbrev zaW:Stmt:=inClass (top 26) 0
def zep:zr ["self","keeper"] ["self","keeper"] (ze zaW):=L2.fsc (by decide+kernel)
abbrev zco:Stmt:=inClass (top 26) 1
def zej:zr ["self","thing","number"] ["self","thing"] (ze zco):=L2.fsc (by decide+kernel)
abbrev zbJ:Stmt:=inClass (top 26) 2
def zdm:zr ["self","number","read"] ["self","number"] (ze zbJ):=L2.fsc (by decide+kernel)
abbrev zbK:Stmt:=inClass (top 26) 3
def zf4:zr ["self"] ["self"] (ze zbK):=L2.fsc (by decide+kernel)
def rFs (dl kp dn:Addr):List (Str ×V):=[("laid",.ref dl),("keeper",.ref kp),("noted",.ref dn)]
def zle (dl kp dn:Addr):Flds (rFs dl kp dn) dl:=⟨rfl,rfl,rfl,rfl,rfl,rfl⟩
structure ROk (H:Hp)(R a dl kp dn:Addr)(kvs nvs:QG):Prop where
 ob:∃dx,H a=some (.ins R dx (rFs dl kp dn))
 di:H dl=some (.dK kvs)
 no:H dn=some (.dK nvs)
def ROk.keep {H H':Hp}{R a dl kp dn:Addr}{kvs nvs:QG}(v:ROk H R a dl kp dn kvs nvs)(s:Same H H'):ROk H' R a dl kp dn kvs nvs:=by obtain⟨⟨dx,e⟩,e2,e3⟩:=v;exact⟨⟨dx,s _ _ e⟩,s _ _ e2,s _ _ e3⟩
def ROk.vok {H:Hp}{R a dl kp dn:Addr}{kvs nvs:QG}(v:ROk H R a dl kp dn kvs nvs):VOk H R a dl kvs:=by obtain⟨⟨dx,e⟩,e2,e3⟩:=v;exact⟨⟨dx,_,e,zle dl kp dn⟩,e2⟩
def zhE (R:Addr):Sp:=λvs H Q _=>∃(a kp dx:Addr),vs=[.ref a,.ref kp]/\H a=some (.ins R dx [])/\
 ∀(dl dn:Addr) (H':Hp),(∀b o,b≠a->H b=some o->H' b=some o)->H dl=none->H dn=none->dl≠dn->H' a=some (.ins R dx (rFs dl kp dn))->H' dl=some (.dK [])->H' dn=some (.dK [])->Q .non H'
def Alike (H:Hp)(kvs:QG)(t:Th):Prop:=∀t1 v1,valV kvs (.inl (zj t))=some v1->Rep H t1 v1->t1=t
def zof (R C CC:Addr):Sp:=λvs H Q E=>∃(a dl kp dn dk:Addr) (kvs nvs kvk:QG) (t:Th) (v:V),vs=[.ref a,v]/\ROk H R a dl kp dn kvs nvs/\VOk H C kp dk kvk/\zcX H kvs/\zcX H kvk/\kvs.length<=1000000/\Rep H t v/\Good t/\
 (∀H',Same H H'->Alike H kvs t->Alike H kvk t->Q (.int (zj t)) (upd H' dl (.dK (putK kvs (.inl (zj t)) v))))/\
 (∀t1 v1 H',Same H H'->(valV kvs (.inl (zj t))=some v1\/(Alike H kvs t/\valV kvk (.inl (zj t))=some v1))->Rep H' t1 v1->Good t1->zj t1=zj t->t1≠t->zhL E CC H' t1 t v1 v)
def ziy (R C CN:Addr):Sp:=λvs H Q E=>∃(a dl kp dn dk:Addr) (kvs nvs kvk:QG) (n:Int),vs=[.ref a,.int n]/\ROk H R a dl kp dn kvs nvs/\VOk H C kp dk kvk/\nvs.length<=1000000/\
 (∀v,valV kvs (.inl n)=some v->Q v H)/\(∀v,valV kvs (.inl n)=none->valV kvk (.inl n)=some v->Q v (upd H dn (.dK (putK nvs (.inl n) v))))/\(valV kvs (.inl n)=none->valV kvk (.inl n)=none->E (.ref CN) none H)
def zkN (R:Addr):Sp:=λvs H Q _=>∃(a dl kp dn:Addr) (kvs nvs:QG) (cs:QF),vs=[.ref a]/\ROk H R a dl kp dn kvs nvs/\DRep H cs nvs/\cs.length<=1000000/\znj cs H Q
section
variable {P:Program}{w:World}{K:QA}{mg:QB}{base:Heap}{R C CC CN:Addr}{x:Str}
def ziK (D:Kdf K mg "Vault" "__init__" "Vault.__init__" zaf ["self"]) (c:Cls K C) (nl:zE K C "laid"):Kfn P w K mg base "Vault" "__init__" 1 ["self"] (zcv C):=by
 refine D.ok (k:=0) zcE (λvs H Q E h=>?_) (λf cdv A outer s H vs Q E hr h=>?_)
 ·obtain⟨a,dx,rfl,_⟩:=h;rfl
 obtain⟨a,dx,rfl,ea,q⟩:=h;refine⟨_,(zd (zeX (pv 0) zc9 (by rfl))),?_⟩;intro d hd;exact⟨_,rfl,a,C,dx,[],rfl,by rw[zk (zm ea hd)];exact ea,c,nl,by decide,q d hd⟩
theorem zfw (a b:V):putF ("keeper" :Str) b [(("laid" :Str),a)]=[(("laid" :Str),a),(("keeper" :Str),b)]:=by
 unfold putF;rw[if_neg (by decide)]
 rfl
theorem zjE (a b c:V):putF ("noted" :Str) c [(("laid" :Str),a),(("keeper" :Str),b)]=[(("laid" :Str),a),(("keeper" :Str),b),(("noted" :Str),c)]:=by
 unfold putF;rw[if_neg (by decide)];unfold putF;rw[if_neg (by decide)]
 rfl
def znY (D:Mkd K mg x R "Reader.__init__" zaW ["self","keeper"]) (zbH:Kfn P w K mg base "Vault" "__init__" 1 ["self"] (zcv R)) (c:Cls K R) (nk:zE K R "keeper") (nn:zE K R "noted"):Mkr P w K mg base x R 2 ["self","keeper"] (zhE R):=by
 refine D.ok (k:=1) zep (λvs H Q E h=>?_) (λf cdv A outer s H vs Q E hr h=>?_)
 ·obtain⟨a,kp,dx,rfl,_⟩:=h;rfl
 obtain⟨a,kp,dx,rfl,ea,q⟩:=h;refine⟨_,(zb (zax (zob zbH hr (by omega) (by rfl) (za (pv 0) zc)))
 (zb (zeX (pv 0) (pv 1) (by rfl))
 (zd (zeX (pv 0) zc9 (by rfl))))),?_⟩
 refine⟨_,rfl,a,dx,rfl,ea,λdl hdl=>?_⟩;have ad:a≠dl:=zm ea hdl;refine⟨_,rfl,_,rfl,a,R,dx,_,rfl,zg,c,nk,(show(1:Nat) < 1000 by decide),?_⟩;intro dn hdn;have an:a≠dn:=λz=>by rw[<-z,zg] at hdn;cases hdn
 rw[zk (Ne.symm an),zk (Ne.symm an)] at hdn;have dd:dl≠dn:=λz=>by rw[<-z,zg] at hdn;cases hdn
 rw[zk (Ne.symm dd)] at hdn;refine⟨_,rfl,a,R,dx,_,rfl,by rw[zk an];exact zg,c,nn,by rw[zfw];exact(show(2:Nat) < 1000 by decide),?_⟩;rw[zfw,zjE];refine q dl dn _ (λb o hb e=>?_) hdl hdn dd zg ?_ ?_
 ·rw[zk hb,zk (zm e hdn),zk hb,zk hb,zk (zm e hdl)];exact e
 ·rw[zk (Ne.symm ad),zk dd,zk (Ne.symm ad),zk (Ne.symm ad)];exact zg
 ·rw[zk (Ne.symm an)];exact zg
def zoQ (D:Mdf K R "lay" "Reader.lay" zco ["self","thing"]) (zj4:Mt P w K mg base (CX1 P w) R "refuse_clash" 3 ["self","number","thing"] (zet R CC)) (zj5:Mt P w K mg base (CX1 P w) C "refuse_clash" 3 ["self","number","thing"] (zet C CC))
  (zcD:Fn P w K mg base "seal" 13 ["thing"] zeY) (c_R:Cls K R) (c_C:Cls K C) (nl:zE K R "laid") (nk:zE K R "keeper"):Mt P w K mg base (CX1 P w) R "lay" 14 ["self","thing"] (zof R C CC):=by
 refine D.okX (k:=13) zej (λvs H Q E h=>?_) (λf cdv A outer s H vs Q E hr h=>?_)
 ·obtain⟨a,dl,kp,dn,dk,kvs,nvs,kvk,t,v,rfl,_⟩:=h;rfl
 obtain⟨a,dl,kp,dn,dk,kvs,nvs,kvk,t,v,rfl,ro,vo,lo,lk,hl,rt,gt,q,qe⟩:=h;have gd:=gt.dp;have gn:=gt.nd;refine⟨_,(zb (zu (i:=2) zej.nd rfl (Or.inl rfl) (zK zcD hr (by omega) (by rfl) (za (pv 1) zc)))
 (zb (zax (zbw (pv 0) c_R zj4 hr (by omega) zL (za (pv 2) (za (pv 1) zc))))
 (zb (zax (zbw (zaJ (pv 0) (by rfl)) c_C zj5 hr (by omega) zL (za (pv 2) (za (pv 1) zc))))
 (zb (zec (zbv hr) (zaJ (pv 0) (by rfl)) (pv 2) (pv 1) (by rfl))
 (zd (zq (pv 2))))))),?_⟩
 refine⟨_,rfl,t,v,rfl,rt,gt.wf,by omega,by omega,λH1 s1=>?_⟩;have ro1:=ro.keep s1;have vo1:=vo.keep s1;obtain⟨⟨dx,eo⟩,ed,en⟩:=id ro1;obtain⟨⟨dy,fs,ek,fl⟩,ed2⟩:=id vo1;have rt1:=rt.keep (Same.tups s1);have back:∀kvs',Alike H1 kvs' t->zcX H kvs'->Alike H kvs' t:=λkvs' al lo' t1 v1 ev r1=>al t1 v1 ev (r1.keep (Same.tups s1));refine⟨_,rfl,a,dx,_,rfl,eo,(zle dl kp dn).n1,_,rfl,_,rfl,a,dl,kvs,_,t,v,rfl,ro1.vok,lo.keep (Same.tups s1),rt1,gt,rfl,λsame=>?_,λt1 v1 ev r1 g1 sn ne=>qe t1 v1 H1 s1 (.inl ev) r1 g1 sn ne⟩;refine⟨_,rfl,a,R,dx,_,_,rfl,eo,c_R,nk,rfl,kp,dy,_,rfl,ek,fl.n1,_,rfl,_,rfl,kp,dk,kvk,_,t,v,rfl,vo1,lk.keep (Same.tups s1),rt1,gt,rfl,λsame2=>?_,λt1 v1 ev r1 g1 sn ne=>qe t1 v1 H1 s1 (.inr ⟨back kvs same lo,ev⟩) r1 g1 sn ne⟩;refine⟨_,rfl,_,rfl,a,R,dx,_,_,rfl,eo,c_R,nl,rfl,_,rfl,dl,_,rfl,DPut.k (k:=Sum.inl (zj t)) ed (Nat.lt_of_le_of_lt hl (by decide+kernel)),?_⟩;exact⟨_,rfl,q H1 s1 (back kvs same lo) (back kvk same2 lk)⟩
def zlS (D:Mdf K R "thing" "Reader.thing" zbJ ["self","number"]) (zc5:Mt P w K mg base (CX1 P w) C "thing" 1 ["self","number"] (zez C CN)) (c_R:Cls K R) (c_C:Cls K C) (nl:zE K R "laid") (nk:zE K R "keeper") (nn:zE K R "noted"):
  Mt P w K mg base (CX1 P w) R "thing" 2 ["self","number"] (ziy R C CN):=by
 refine D.okX (k:=1) zdm (λvs H Q E h=>?_) (λf cdv A outer s H vs Q E hr h=>?_)
 ·obtain⟨a,dl,kp,dn,dk,kvs,nvs,kvk,n,rfl,_⟩:=h;rfl
 obtain⟨a,dl,kp,dn,dk,kvs,nvs,kvk,n,rfl,ro,vo,hl,q1,q2,qe⟩:=h;obtain⟨⟨dx,eo⟩,ed,en⟩:=id ro;obtain⟨⟨dy,fs,ek,fl⟩,ed2⟩:=id vo;refine⟨_,(zb (zN (zgN (zmx (zbv hr) (pv 1) (zaJ (pv 0) (by rfl))))
 (zd (zq (zcu (zbv hr) (zaJ (pv 0) (by rfl)) (pv 1) (λ_ _=>rfl))))
 zy)
 (zb (zu (i:=2) zdm.nd rfl (Or.inl rfl) (zbw (zaJ (pv 0) (by rfl)) c_C zc5 hr (by omega) zL (za (pv 1) zc)))
 (zb (zec (zbv hr) (zaJ (pv 0) (by rfl)) (pv 1) (pv 2) (by rfl))
 (zd (zq (pv 2)))))),?_⟩
 refine⟨_,rfl,_,rfl,a,R,dx,_,_,rfl,eo,c_R,nl,rfl,dl,_,rfl,DGet.k (k:=Sum.inl n) ed,_,rfl,?_⟩;cases ev:valV kvs (Sum.inl n) with
 | some v=>
  have dg:DGet H dl (.int n) (some v):=by rw[<-ev];exact DGet.k (k:=Sum.inl n) ed
  refine ifT rfl ?_;exact⟨_,rfl,a,R,dx,_,_,rfl,eo,c_R,nl,rfl,_,rfl,dl,v,rfl,dg,q1 v ev⟩
 | none=>refine ifF rfl ?_;refine⟨_,rfl,a,R,dx,_,_,rfl,eo,c_R,nk,rfl,kp,dy,_,rfl,ek,fl.n3,_,rfl,kp,dk,kvk,n,rfl,vo,λv e=>?_,λe=>qe ev e⟩;refine⟨_,rfl,_,rfl,a,R,dx,_,_,rfl,eo,c_R,nn,rfl,_,rfl,dn,_,rfl,DPut.k (k:=Sum.inl n) en (Nat.lt_of_le_of_lt hl (by decide+kernel)),?_⟩;exact⟨_,rfl,q2 v ev e⟩
def zoi (D:Mdf K R "paper" "Reader.paper" zbK ["self"]) (zgV:Fn P w K mg base "rising" 1 ["laid"] zgO) (c:Cls K R) (nn:zE K R "noted"):Mt P w K mg base CX0 R "paper" 2 ["self"] (zkN R):=by
 refine D.ok (k:=1) zf4 (λvs H Q E h=>?_) (λf cdv A outer s H vs Q E hr h=>?_)
 ·obtain⟨a,dl,kp,dn,kvs,nvs,cs,rfl,_⟩:=h;rfl
 obtain⟨a,dl,kp,dn,kvs,nvs,cs,rfl,⟨⟨dx,eo⟩,ed,en⟩,dr,h64,q⟩:=h;exact⟨_,(zd (zq (zK zgV hr (by omega) (by rfl) (za (zaJ (pv 0) (by rfl)) zc)))),_,rfl,a,R,dx,_,_,rfl,eo,c,nn,rfl,dn,nvs,cs,rfl,en,dr,h64,q⟩
end
def Mt.mono {P:Program}{w:World}{K:QA}{mg:QB}{base:Heap}{CX:CXT}{C:Addr}{m:Str}{j k:Nat}{ps:QP}{sp:Sp}(F:Mt P w K mg base CX C m j ps sp)(h:j<=k):Mt P w K mg base CX C m k ps sp:=by obtain⟨f,fd,a,b⟩:=F.ex;exact⟨f,fd,a.mono h,b⟩
theorem NL.tups {H H':Hp}(n:NL H H'):Tups H H':=λb xs e=>n b _ (by intro ys z;cases z) e
def VOk.nl {H H':Hp}{C a d:Addr}{kvs:QG}(v:VOk H C a d kvs)(n:NL H H'):VOk H' C a d kvs:=by obtain⟨⟨dx,fs,e,f⟩,e2⟩:=v;exact⟨⟨dx,fs,n _ _ (by intro ys z;cases z) e,f⟩,n _ _ (by intro ys z;cases z) e2⟩
def VS.nl {H H':Hp}{C a d:Addr}{cs:QF}(v:VS H C a d cs)(n:NL H H'):VS H' C a d cs:=by obtain⟨kv,vo,dr⟩:=v.vo;exact⟨⟨kv,vo.nl n,dr.keep n.tups⟩,v.gc⟩
theorem zaH {a b:QF}{n:Int}:zf (a++b) n=(zf a n).or (zf b n):=by
 induction a with
 | nil=>rfl
 | cons p r ih=>
  obtain⟨k,u⟩:=p;rw[List.cons_append,zak,zak];by_cases h:k=n
  ·rw[if_pos h,if_pos h];rfl
  ·rw[if_neg h,if_neg h];exact ih
theorem Vst.all_own {s:Vst}{n:Int}{t:Th}(h:zf s.own n=some t):zf s.all n=some t:=by unfold Vst.all;rw[zaH,h];rfl
theorem Vst.all_kp {s:Vst}{n:Int}(h:zf s.own n=none):zf s.all n=zf s.kp n:=by unfold Vst.all;rw[zaH,h];rfl
def zcK {s:Vst}{t:Th}(h:s.stop t=none):zf s.all (zj t)=none\/zf s.all (zj t)=some t:=by
 unfold Vst.stop at h;cases z:zf s.all (zj t) with
 | none=>exact .inl rfl
 | some u=>
  rw[z] at h;have h':(if u=t then none else some u)=(none:Option Th):=h;by_cases e:u=t
  ·rw[e];exact .inr rfl
  ·rw[if_neg e] at h';cases h'
def zeb {s:Vst}{t:Th}(h:zf s.all (zj t)=none\/zf s.all (zj t)=some t):s.stop t=none:=by
 unfold Vst.stop;rcases h with h | h
 ·rw[h]
 ·rw[h];exact if_pos rfl
def zdE {s:Vst}{t u:Th}(h:zf s.all (zj t)=some u)(n:u≠t):s.stop t=some u:=by unfold Vst.stop;rw[h];exact if_neg n
structure VK (C:Addr)(H:Hp)(a:Addr)(D:QO)(s:Vst):Prop where
 vs:∃d,D=[d]/\VS H C a d s.own
 kp:s.kp=[]
 rm:s.own.length+s.n<=1000000
def vi_K (C:Addr):VI C (VK C) where
 ins:=λv=>by obtain⟨d,_,vs⟩:=v.vs;obtain⟨kv,⟨⟨dx,fs,e,f⟩,_⟩,_⟩:=vs.vo;exact⟨dx,fs,e,f.n3,f.n2⟩
 dic:=λv b hb=>by obtain⟨d,e,vs⟩:=v.vs;obtain⟨kv,vo,_⟩:=vs.vo;subst e;rw[Ji.mp hb];exact⟨kv,vo.di⟩
 nl:=λv n=>by obtain⟨d,e,vs⟩:=v.vs;exact⟨⟨d,e,vs.nl n⟩,v.kp,v.rm⟩
structure VRd (R C kp dk:Addr)(H:Hp)(a:Addr)(D:QO)(s:Vst):Prop where
 ro:∃dl dn kvs nvs,D=[dl,dn]/\ROk H R a dl kp dn kvs nvs/\DRep H s.own kvs/\DRep H s.nt nvs/\dl≠dn/\dk≠dl/\dk≠dn
 vs:VS H C kp dk s.kp
 g1:GoodC s.own
 g2:GoodC s.nt
 co:∀n t u,zf s.own n=some t->zf s.kp n=some u->t=u
 su:∀n t,zf s.nt n=some t->zf s.kp n=some t
 r1:s.own.length+s.n<=1000000
 r2:s.nt.length+s.n<=1000000
def ROk.nl {H H':Hp}{R a dl kp dn:Addr}{kvs nvs:QG}(v:ROk H R a dl kp dn kvs nvs)(n:NL H H'):ROk H' R a dl kp dn kvs nvs:=by obtain⟨⟨dx,e⟩,e2,e3⟩:=v;exact⟨⟨dx,n _ _ (by intro ys z;cases z) e⟩,n _ _ (by intro ys z;cases z) e2,n _ _ (by intro ys z;cases z) e3⟩
def vi_R (R C kp dk:Addr):VI R (VRd R C kp dk) where
 ins:=λv=>by obtain⟨dl,dn,kvs,nvs,_,ro,_⟩:=v.ro;obtain⟨⟨dx,e⟩,_⟩:=ro;exact⟨dx,_,e,(zle dl kp dn).n3,(zle dl kp dn).n2⟩
 dic:=λv b hb=>by
  obtain⟨dl,dn,kvs,nvs,e,ro,_⟩:=v.ro;subst e;simp only[List.mem_cons,List.not_mem_nil,or_false] at hb;rcases hb with rfl | rfl
  ·exact⟨_,ro.di⟩
  ·exact⟨_,ro.no⟩
 nl:=λv n=>by obtain⟨dl,dn,kvs,nvs,e,ro,d1,d2,ne⟩:=v.ro;exact⟨⟨dl,dn,kvs,nvs,e,ro.nl n,d1.keep n.tups,d2.keep n.tups,ne⟩,v.vs.nl n,v.g1,v.g2,v.co,v.su,v.r1,v.r2⟩
theorem Vst.look_own {s:Vst}{n:Int}{t:Th}(h:zf s.own n=some t):s.look n=some (t,{s with n:=s.n - 1}):=by unfold Vst.look;rw[h]
theorem Vst.look_kp {s:Vst}{n:Int}{t:Th}(h:zf s.own n=none)(k:zf s.kp n=some t):s.look n=some (t,{s with nt:=addT s.nt n t,n:=s.n - 1}):=by unfold Vst.look;rw[h];show(match zf s.kp n with | some t=>_ | none=>_)=_;rw[k]
theorem Vst.look_no {s:Vst}{n:Int}(h:zf s.own n=none)(k:zf s.kp n=none):s.look n=none:=by unfold Vst.look;rw[h];show(match zf s.kp n with | some t=>_ | none=>_)=_;rw[k]
section
variable {P:Program}{w:World}{K:QA}{mg:QB}{base:Heap}{R C CC CN kp dk:Addr}{x:Str}
def zkt (M:Mt P w K mg base (CX1 P w) C "thing" 1 ["self","number"] (zez C CN)):Mt P w K mg base (CX1 P w) C "thing" 2 ["self","number"] (zeB (VK C) CN):=Mt.mono (Mt.imp M λvs H Q E h=>by
 obtain⟨a,D,s,n,rfl,vk,h0,q,qe⟩:=h;obtain⟨d,rfl,vs⟩:=id vk.vs;obtain⟨kv,vo,dr⟩:=vs.vo;refine⟨a,d,kv,n,rfl,vo,λv ev=>?_,λev=>?_⟩
 ·obtain⟨t,e1,rv⟩:=dr.back ev;exact q t _ v H (Vst.look_own e1) Frm.refl ⟨⟨d,rfl,vs⟩,vk.kp,by have:=vk.rm;show s.own.length+(s.n - 1)<=1000000;omega⟩ rv (vs.gc.dep e1).1
 ·refine qe H (Vst.look_no ?_ (by rw[vk.kp];rfl)) Frm.refl vk;cases z:zf s.own n with
  | none=>rfl
  | some t=>obtain⟨y,ey,_⟩:=dr.some z;rw[ev] at ey;cases ey) (by decide)
def zpV (M:Mt P w K mg base (CX1 P w) C "lay" 14 ["self","thing"] (zmD C CC)):Mt P w K mg base (CX1 P w) C "lay" 14 ["self","thing"] (zd1 (VK C) CC):=Mt.imp M λvs H Q E h=>by
 obtain⟨a,D,s,t,v,rfl,vk,h0,rt,gt,q,qe⟩:=h;obtain⟨d,rfl,vs⟩:=id vk.vs;obtain⟨kv,vo,dr⟩:=vs.vo;have rm:=vk.rm;have eall:∀n,zf s.all n=zf s.own n:=λn=>by unfold Vst.all;rw[vk.kp,List.append_nil]
 refine⟨a,d,kv,t,v,rfl,vo,dr.laidOk vs.gc.gd,by rw[dr.len];omega,rt,gt,λH' sm alike=>?_,λt1 v1 H' sm e1 r1 g1 se ne H2 x s2 ex=>?_⟩
 ·have ft:Fits s.own (zj t) t:=by
   cases z:zf s.own (zj t) with
   | none=>exact .inl z
   | some u=>obtain⟨y,ey,ry⟩:=dr.some z;rw[alike u y ey ry] at z;exact .inr z
  have ed':=sm _ _ vo.di;have tk:Tups H (upd H' d (.dK (putK kv (.inl (zj t)) v))):=(Same.tups sm).trans (Tups.upd λxs z=>by rw[ed'] at z;cases z);have fr:Frm [d] H (upd H' d (.dK (putK kv (.inl (zj t)) v))):=λb o n e=>by rw[zk (λz=>n (by rw[z];exact Ji.mpr rfl))];exact sm b o e
  obtain⟨⟨dx,fs,eo,fl⟩,ed⟩:=id vo;have hal:=zdn s.own (zj t) t;have had:a∉ [d]:=λz=>za4 eo ed (by intro y;cases y) (Ji.mp z);exact q _ (zeb (by rw[eall];exact ft)) fr ⟨⟨d,rfl,⟨⟨_,⟨⟨dx,fs,fr _ _ had eo,fl⟩,zg⟩,(dr.keep tk).add (rt.keep tk) ft vs.gc.nd⟩,vs.gc.add gt rfl⟩⟩,vk.kp,by show(addT s.own (zj t) t).length+(s.n - 1)<=1000000;omega⟩
 ·obtain⟨t2,e2,r2⟩:=dr.back e1;have e12:t2=t1:=(r2.keep (Same.tups sm)).uniq r1;subst e12;exact qe t2 x v1 v H2 (zdE (by rw[eall];exact e2) ne) (Frm.of λb o z=>s2 b o (sm b o z)) ((vi_K C).same vk λb o z=>s2 b o (sm b o z)) (r1.keep (Same.tups s2)) (rt.keep ((Same.tups sm).trans (Same.tups s2))) g1 gt ne se ex
def zpq (M:Mt P w K mg base (CX1 P w) R "thing" 2 ["self","number"] (ziy R C CN)):Mt P w K mg base (CX1 P w) R "thing" 2 ["self","number"] (zeB (VRd R C kp dk) CN):=Mt.imp M λvs H Q E h=>by
 obtain⟨a,D,s,n,rfl,vr,h0,q,qe⟩:=h;obtain⟨dl,dn,kvs,nvs,rfl,ro,d1,d2,ne,nk1,nk2⟩:=id vr.ro;obtain⟨kv,vo,dr⟩:=vr.vs.vo;have r1:=vr.r1;have r2:=vr.r2;have non:∀{cs:QF} {kvs:QG},DRep H cs kvs->valV kvs (Sum.inl n)=none->zf cs n=none:=λd ev=>by
  rename_i cs _;cases z:zf cs n with
  | none=>rfl
  | some t=>obtain⟨y,ey,_⟩:=d.some z;rw[ev] at ey;cases ey
 refine⟨a,dl,kp,dn,dk,kvs,nvs,kv,n,rfl,ro,vo,by rw[d2.len];omega,λv ev=>?_,λv e0 ev=>?_,λe0 ev=>?_⟩
 ·obtain⟨t,e1,rv⟩:=d1.back ev;exact q t _ v H (Vst.look_own e1) Frm.refl ⟨vr.ro,vr.vs,vr.g1,vr.g2,vr.co,vr.su,by show s.own.length+(s.n - 1)<=1000000;omega,by show s.nt.length+(s.n - 1)<=1000000;omega⟩ rv (vr.g1.dep e1).1
 ·obtain⟨t,e1,rv⟩:=dr.back ev;have ft:Fits s.nt n t:=by
   cases z:zf s.nt n with
   | none=>exact .inl z
   | some u=>have:=vr.su n u z;rw[e1] at this;cases this;exact .inr z
  have en:=ro.no;have tk:Tups H (upd H dn (.dK (putK nvs (.inl n) v))):=Tups.upd λxs z=>by rw[en] at z;cases z
  have fr:Frm [dl,dn] H (upd H dn (.dK (putK nvs (.inl n) v))):=Frm.upd (by simp);obtain⟨gt,sn⟩:=vr.vs.gc.dep e1;have hal:=zdn s.nt n t;obtain⟨⟨dx,eo⟩,ed,_⟩:=id ro;obtain⟨⟨dy,fs,eok,flk⟩,edk⟩:=id vo;refine q t _ v _ (Vst.look_kp (non d1 e0) e1) fr ⟨⟨dl,dn,kvs,_,rfl,⟨⟨dx,?_⟩,?_,zg⟩,d1.keep tk,(d2.keep tk).add (rv.keep tk) ft vr.g2.nd,ne,nk1,nk2⟩,⟨⟨kv,⟨⟨dy,fs,?_,flk⟩,?_⟩,dr.keep tk⟩,vr.vs.gc⟩,vr.g1,vr.g2.add gt sn,vr.co,λm u z=>?_,by show s.own.length+(s.n - 1)<=1000000;omega,by show(addT s.nt n t).length+(s.n - 1)<=1000000;omega⟩ (rv.keep tk) gt
  ·rw[zk (za4 eo en (by intro z;cases z))];exact eo
  ·rw[zk ne];exact ed
  ·rw[zk (za4 eok en (by intro z;cases z))];exact eok
  ·rw[zk nk2];exact edk
  ·rcases zaQ z with z | ⟨rfl,rfl⟩
   ·exact vr.su m u z
   ·exact e1
 ·exact qe H (Vst.look_no (non d1 e0) (non dr ev)) Frm.refl vr
def zry (M:Mt P w K mg base (CX1 P w) R "lay" 14 ["self","thing"] (zof R C CC)):Mt P w K mg base (CX1 P w) R "lay" 14 ["self","thing"] (zd1 (VRd R C kp dk) CC):=Mt.imp M λvs H Q E h=>by
 obtain⟨a,D,s,t,v,rfl,vr,h0,rt,gt,q,qe⟩:=h;obtain⟨dl,dn,kvs,nvs,rfl,ro,d1,d2,ne,nk1,nk2⟩:=id vr.ro;obtain⟨kv,vo,dr⟩:=vr.vs.vo;have r1:=vr.r1;have r2:=vr.r2;have fits:∀{cs:QF} {kvs:QG},DRep H cs kvs->Alike H kvs t->Fits cs (zj t) t:=λd al=>by
  rename_i cs _;cases z:zf cs (zj t) with
  | none=>exact .inl z
  | some u=>obtain⟨y,ey,ry⟩:=d.some z;rw[al u y ey ry] at z;exact .inr z
 refine⟨a,dl,kp,dn,dk,kvs,nvs,kv,t,v,rfl,ro,vo,d1.laidOk vr.g1.gd,dr.laidOk vr.vs.gc.gd,by rw[d1.len];omega,rt,gt,λH' sm al1 al2=>?_,λt1 v1 H' sm e1 r1' g1 se nt H2 x s2 ex=>?_⟩
 ·have f1:=fits d1 al1;have f2:=fits dr al2;have ed':=sm _ _ ro.di;have tk:Tups H (upd H' dl (.dK (putK kvs (.inl (zj t)) v))):=(Same.tups sm).trans (Tups.upd λxs z=>by rw[ed'] at z;cases z);have fr:Frm [dl,dn] H (upd H' dl (.dK (putK kvs (.inl (zj t)) v))):=λb o n e=>by rw[zk (λz=>n (by rw[z];simp))];exact sm b o e
  obtain⟨⟨dx,eo⟩,ed,en⟩:=id ro;obtain⟨⟨dy,fs,eok,flk⟩,edk⟩:=id vo;have hal:=zdn s.own (zj t) t;refine q _ (zeb ?_) fr ⟨⟨dl,dn,_,nvs,rfl,⟨⟨dx,?_⟩,zg,?_⟩,(d1.keep tk).add (rt.keep tk) f1 vr.g1.nd,d2.keep tk,ne,nk1,nk2⟩,⟨⟨kv,⟨⟨dy,fs,?_,flk⟩,?_⟩,dr.keep tk⟩,vr.vs.gc⟩,vr.g1.add gt rfl,vr.g2,λm u u' z z'=>?_,vr.su,by show(addT s.own (zj t) t).length+(s.n - 1)<=1000000;omega,by show s.nt.length+(s.n - 1)<=1000000;omega⟩
  ·rcases f1 with f1 | f1
   ·rw[Vst.all_kp f1];exact f2
   ·rw[Vst.all_own f1];exact .inr rfl
  ·rw[zk (za4 eo ed (by intro z;cases z))];exact sm _ _ eo
  ·rw[zk (Ne.symm ne)];exact sm _ _ en
  ·rw[zk (za4 eok ed (by intro z;cases z))];exact sm _ _ eok
  ·rw[zk nk1];exact sm _ _ edk
  ·have z':zf s.kp m=some u':=z';rcases zaQ z with z | ⟨rfl,rfl⟩
   ·exact vr.co m u u' z z'
   ·rcases f2 with f2 | f2
    ·rw[f2] at z';cases z'
    ·rw[f2] at z';cases z';rfl
 ·have st:s.stop t=some t1:=by
   rcases e1 with e1 | ⟨al,e1⟩
   ·obtain⟨t2,e2,r2'⟩:=d1.back e1;have e12:t2=t1:=(r2'.keep (Same.tups sm)).uniq r1';subst e12;exact zdE (Vst.all_own e2) nt
   ·obtain⟨t2,e2,r2'⟩:=dr.back e1;have e12:t2=t1:=(r2'.keep (Same.tups sm)).uniq r1';subst e12;rcases fits d1 al with f1 | f1
    ·exact zdE (by rw[Vst.all_kp f1];exact e2) nt
    ·have:=vr.co _ _ _ f1 e2;exact Jh this.symm nt
  exact qe t1 x v1 v H2 st (Frm.of λb o z=>s2 b o (sm b o z)) ((vi_R R C kp dk).same vr λb o z=>s2 b o (sm b o z)) (r1'.keep (Same.tups s2)) (rt.keep ((Same.tups sm).trans (Same.tups s2))) g1 gt nt se ex
end
end Pv
namespace Pv
open PySem L2
open Tr
def inR (a b:Th)(p:Th ×Th):Bool:=(decide (a=.non) || !zh p.1 a) && (decide (b=.non) || zh p.1 b)
def rng (a b:Th)(ps:QH):List (Th ×Th):=ps.filter (inR a b)
def pend (a b:Th):List Tr->List (Th ×Th)
 | []=>[]
 | nil::st=>pend a b st
 | node _ k w r::st=>rng a b ((k,w)::r.ps)++pend a b st
def Abv:Tr->Prop
 | nil=>True
 | node l k _ r=>(∀p∈l.ps,zaI k p.1=true)/\(∀p∈r.ps,zaI k p.1=true)/\Abv l/\Abv r
def Tr.joinT:Tr->Tr->Tr
 | nil,R=>R
 | node l k w r,nil=>node l k w r
 | node l k w r,node l' k' w' r'=>if zaI k k'=true then node l k w (joinT r (node l' k' w' r')) else node (joinT (node l k w r) l') k' w' r'
 termination_by L R=>sizeOf L+sizeOf R
theorem zlL (L:Tr):joinT L nil=L:=by
 cases L with
 | nil=>rw[joinT]
 | node l k w r=>rw[joinT]
theorem zfT:∀(L R:Tr),(joinT L R).ps=L.ps++R.ps
 | nil,R=>by rw[joinT];rfl
 | node l k w r,nil=>by rw[joinT];exact(List.append_nil _).symm
 | node l k w r,node l' k' w' r'=>by
  rw[joinT];by_cases c:zaI k k'=true
  ·rw[if_pos c];show l.ps++(k,w)::(joinT r (node l' k' w' r')).ps=(l.ps++(k,w)::r.ps)++_;rw[zfT r (node l' k' w' r')];simp
  ·rw[if_neg c];show(joinT (node l k w r) l').ps++(k',w')::r'.ps=_++(l'.ps++(k',w')::r'.ps);rw[zfT (node l k w r) l'];simp
 termination_by L R=>sizeOf L+sizeOf R
def Tr.cutT (x:Th)(T:Tr):Tr:=
 match own x T with
 | nil=>T
 | node l _ _ r=>plug x (wl x T - 1) T (joinT l r)
def offP (ps:QH)(x:Th):List (Th ×Th):=ps.filter λp=>!eqT p.1 x
def zqc {p x:Th}(h:p≠x):(!eqT p x)=true:=by
 cases z:eqT p x with
 | true=>exact Jh ((za8 p x).mp z) h
 | false=>rfl
def zdI {ps:QH}{x:Th}(h:∀p∈ps,p.1≠x):offP ps x=ps:=List.filter_eq_self.mpr λp hp=>zqc (h p hp)
def zqJ {x:Th}{T:Tr}(hs:Srt T.ps):(cutT x T).ps=offP T.ps x:=by
 unfold cutT;cases z:own x T with
 | nil=>exact(zdI (zfL hs z)).symm
 | node l k v r=>
  obtain⟨rfl,n,ew,u,d⟩:=zcP z;show(plug k (wl k T - 1) T (joinT l r)).ps=_;rw[ew,Nat.add_sub_cancel];obtain⟨A,B,e1,e2,e3,e4⟩:=zdb hs u;obtain⟨_,_,h3,h4⟩:=zcM (d ▸ zdq hs);rw[e1,zfT]
  conv=>rhs;rw[e2,d]
  unfold offP;rw[List.filter_append,List.filter_append];have nA:∀p∈A,p.1≠k:=λp hp e=>by have:=e3 p hp;rw[e,zae] at this;cases this
  have nB:∀p∈B,p.1≠k:=λp hp e=>by have:=e4 p hp;rw[e,zae] at this;cases this
  have nl:∀p∈l.ps,p.1≠k:=λp hp e=>by have:=h3 p hp;rw[e,zae] at this;cases this
  have nr:∀p∈r.ps,p.1≠k:=λp hp e=>by have:=h4 p hp;rw[e,zae] at this;cases this
  have:=zdI nA;have hA:A.filter (λp=>!eqT p.1 k)=A:=zdI nA;have hB:B.filter (λp=>!eqT p.1 k)=B:=zdI nB;have hl:l.ps.filter (λp=>!eqT p.1 k)=l.ps:=zdI nl;have hr:r.ps.filter (λp=>!eqT p.1 k)=r.ps:=zdI nr;rw[hA,hB];show A++(l.ps++r.ps)++B=A++(l.ps++(k,v)::r.ps).filter (λp=>!eqT p.1 k)++B;rw[List.filter_append,List.filter_cons,hl,hr,zaO]
  rfl
theorem zdo {x:Th}:∀{n:Nat} {T:Tr},(down x n T).cnt<=T.cnt
 | 0,_=>Jb _
 | n+1,nil=>zdo (n:=n) (T:=nil)
 | n+1,node l k w r=>by
  have h:=zdo (x:=x) (n:=n) (T:=if zh k x=true then r else l);show(down x n (if zh k x=true then r else l)).cnt<=_;rw[zM];by_cases c:zh k x=true
  ·rw[if_pos c] at h ⊢;omega
  ·rw[if_neg c] at h ⊢;omega
theorem zfJ {x:Th}:∀{n:Nat} {T:Tr},(∀m,m < n->down x m T≠nil)->(spl x n T).1.cnt+(spl x n T).2.cnt=T.cnt
 | 0,T,_=>rfl
 | n+1,nil,h=>Jh rfl (h 0 (Nat.zero_lt_succ _))
 | n+1,node l k w r,h=>by
  have h':∀m,m < n->down x m (if zh k x=true then r else l)≠nil:=λm hm=>h (m+1) (JA hm);show(if zh k x=true then(node l k w (spl x n r).1,(spl x n r).2) else((spl x n l).1,node (spl x n l).2 k w r)).1.cnt+(if zh k x=true then(node l k w (spl x n r).1,(spl x n r).2) else((spl x n l).1,node (spl x n l).2 k w r)).2.cnt=_;by_cases c:zh k x=true
  ·rw[if_pos c] at h' ⊢;have:=zfJ h';show(node l k w (spl x n r).1).cnt+(spl x n r).2.cnt=_;rw[zM,zM];omega
  ·rw[if_neg c] at h' ⊢;have:=zfJ h';show(spl x n l).1.cnt+(node (spl x n l).2 k w r).cnt=_;rw[zM,zM];omega
structure Go (A:Th->Prop)(j:Nat)(s s':Vst):Prop where
 kp:s'.kp=s.kp
 al:Sub s.all s'.all
 nt:∀n t,zf s'.nt n=some t->zf s.nt n=some t\/A t
 n:s.n<=s'.n+j
def Go.refl {A:Th->Prop}(s:Vst):Go A 0 s s:=⟨rfl,Sub.refl _,λ_ _ h=>.inl h,Jb _⟩
theorem Go.trans {A:Th->Prop}{i j:Nat}{s s' s'':Vst}(g:Go A i s s')(g':Go A j s' s''):Go A (i+j) s s'':=
 ⟨g'.kp.trans g.kp,g.al.trans g'.al,λn t h=>by
  rcases g'.nt n t h with h | h
  ·exact g.nt n t h
  ·exact .inr h,by have:=g.n;have:=g'.n;omega⟩
def Go.mono {A:Th->Prop}{i j:Nat}{s s':Vst}(g:Go A i s s')(h:i<=j):Go A j s s':=⟨g.kp,g.al,g.nt,by have:=g.n;omega⟩
def znO {s:Vst}{n:Int}{t:Th}{A:Th->Prop}(h:zf s.all n=some t)(hA:A t)(h0:0 < s.n):∃s',s.look n=some (t,s')/\Go A 1 s s'/\s'.own=s.own:=by
 cases z:zf s.own n with
 | some u=>rw[Vst.all_own z] at h;cases h;exact⟨_,Vst.look_own z,⟨rfl,Sub.refl _,λ_ _ h=>.inl h,by show s.n<=s.n - 1+1;omega⟩,rfl⟩
 | none=>
  rw[Vst.all_kp z] at h;refine⟨_,Vst.look_kp z h,⟨rfl,Sub.refl _,λm u y=>?_,by show s.n<=s.n - 1+1;omega⟩,rfl⟩;rcases zaQ y with y | ⟨_,rfl⟩
  ·exact .inl y
  ·exact .inr hA
def ndT (l:Tr)(k w:Th)(r:Tr):Nd:=⟨k,w,l.root,r.root,(((l.ps++(k,w)::r.ps).length:Nat):Int)⟩
theorem zq1 {l r:Tr}{k w:Th}{m:Int}(kw:KeyT k/\KeyT w)(c3:(node l k w r).cnt<=300)(hm:((node l k w r).cnt:Int) < m):benK m (node l k w r).thing=.ret (ndT l k w r):=by have ok:=(zb7 kw.1 kw.2 c3).1;have e:ndOf (node l k w r).thing=some (ndT l k w r):=zkW (nd:=ndT l k w r) (zqw (nd:=ndT l k w r) ok);rw[zeV e,if_pos (show(ndT l k w r).c < m from hm)]
def zh6 {A:Th->Prop}{l r:Tr}{k w:Th}{m:Int}{s:Vst}{q:Nd->Vst->Prop}{e:Er->Vst->Prop}(tk:TOk s.all (node l k w r))(hm:((node l k w r).cnt:Int) < m)(h0:0 < s.n)(hA:A (node l k w r).thing)(h:∀s',Go A 1 s s'->s'.own=s.own->q (ndT l k w r) s'):(benP (node l k w r).root m).wp s q e:=by
 obtain⟨s',e1,g,eo⟩:=znO tk.iv.1 hA h0;refine⟨h0,λt s2 z=>?_,λz=>?_⟩
 ·rw[e1] at z;cases z;rw[zq1 tk.kw tk.ct hm];exact h _ g eo
 ·rw[e1] at z;cases z
def wayN (x:Th):Tr->List Nd
 | nil=>[]
 | node l k w r=>ndT l k w r::(if k=x then[] else if zh k x=true then wayN x r else wayN x l)
theorem zli {x:Th}{l r:Tr}{k w:Th}(h:k≠x):wayN x (node l k w r)=ndT l k w r::wayN x ((node l k w r).kid x):=by
 show ndT l k w r::(if k=x then[] else if zh k x=true then wayN x r else wayN x l)=ndT l k w r::wayN x (if zh k x=true then r else l);rw[if_neg h];by_cases c:zh k x=true
 ·rw[if_pos c,if_pos c]
 ·rw[if_neg c,if_neg c]
def zk9 {x:Th}{l r:Tr}{k w:Th}:((node l k w r).kid x).cnt+1<=(node l k w r).cnt:=by have:=zM l k w r;show(if zh k x=true then r else l).cnt+1<=_;split <;> omega
theorem znW {x:Th}{l r:Tr}{k w:Th}:kidI (ndT l k w r) x=((node l k w r).kid x).root:=by show(if zh k x=true then r.root else l.root)=(if zh k x=true then r else l).root;split <;> rfl
def TOk.go {A:Th->Prop}{j:Nat}{s s':Vst}{T:Tr}(t:TOk s.all T)(g:Go A j s s'):TOk s'.all T:=t.mono g.al
theorem zjD {A:Th->Prop}{x:Th}{e:Er->Vst->Prop}:∀{T:Tr} {f:Nat} {m:Int} {s:Vst} {q:List Nd->Vst->Prop},TOk s.all T->T.cnt < f->(T.cnt:Int) < m->T.cnt<=s.n->(∀nd∈wayN x T,A nd.th)->(∀s',Go A T.cnt s s'->s'.own=s.own->q (wayN x T) s')->(wayP x f T.root m).wp s q e
 | T,0,_,_,_,_,h,_,_,_,_=>Jh h (Nat.not_lt_zero _)
 | nil,f+1,m,s,q,_,_,_,_,_,h=>by unfold wayP;rw[if_pos (show(Tr.nil).root=0 from rfl)];exact h s (Go.refl s) rfl
 | node l k w r,f+1,m,s,q,tk,hf,hm,hn,hA,h=>by
  have kc:=zk9 (x:=x) (l:=l) (r:=r) (k:=k) (w:=w);unfold wayP;rw[if_neg (λz=>by cases zdD.mp z),Pg.wp_bind];refine zh6 (A:=A) tk hm (by omega) (hA _ List.mem_cons_self) λs1 g1 o1=>?_;by_cases ek:k=x
  ·rw[if_pos (show(ndT l k w r).k=x from ek)];have e1:wayN x (node l k w r)=[ndT l k w r]:=by show _::(if k=x then[] else _)=_;rw[if_pos ek]
   rw[e1] at h;exact h s1 (g1.mono (by omega)) o1
  ·rw[if_neg (show¬(ndT l k w r).k=x from ek),Pg.wp_bind,znW];rw[zli ek] at hA h;have gn:=g1.n;refine zjD (T:=(node l k w r).kid x) (tk.go g1).kid (by omega) (by show _ < (((l.ps++(k,w)::r.ps).length:Nat):Int);have:(l.ps++(k,w)::r.ps).length=(node l k w r).cnt:=rfl;omega) (by omega) (λnd hnd=>hA nd (Jn _ hnd)) λs2 g2 o2=>?_;exact h s2 ((g1.trans g2).mono (by omega)) (o2.trans o1)
termination_by T f _ _ _ _ _ _ _ _ _=>f
def zpt {s:Vst}{t:Th}(h:s.stop t=none):Sub s.all (s.add t).all/\zf (s.add t).all (zj t)=some t:=by
 have h':=zcK h;have key:zf (s.add t).all (zj t)=some t:=by
  show zf (addT s.own (zj t) t++s.kp) (zj t)=some t;rw[zaH];cases z:zf s.own (zj t) with
  | none=>rw[zar (.inl z)];rfl
  | some u=>
   rw[Vst.all_own z] at h';rcases h' with h' | h'
   ·cases h'
   ·cases h';rw[zar (.inr z)];rfl
 refine⟨λn u e=>?_,key⟩;show zf (addT s.own (zj t) t++s.kp) n=some u;rw[zaH];cases z:zf s.own n with
 | some v=>rw[Vst.all_own z] at e;cases e;rw[zaY z];rfl
 | none=>
  rw[Vst.all_kp z] at e;cases y:zf (addT s.own (zj t) t) n with
  | none=>exact e
  | some v=>
   rcases zaQ y with y | ⟨rfl,rfl⟩
   ·rw[z] at y;cases y
   ·rw[Vst.all_kp z,e] at h';rcases h' with h' | h'
    ·cases h'
    ·exact h'.symm
def zcs {A:Th->Prop}{α:Type}{t:Th}{k:Pg α}{s:Vst}{q:α->Vst->Prop}{e:Er->Vst->Prop}(h0:0 < s.n)(g:Good t)(hc:∀u t s',e (.clash u t) s')(h:∀s',Go A 1 s s'->zf s'.all (zj t)=some t->k.wp s' q e):(Pg.lay t k).wp s q e:=by refine⟨h0,g,λz=>?_,λu _=>hc u t s⟩;obtain⟨a,b⟩:=zpt z;exact h _ ⟨rfl,a,λ_ _ h=>.inl h,by show s.n<=s.n - 1+1;omega⟩ b
def wayT (x:Th):Nat->Tr->List Nd
 | 0,_=>[]
 | _+1,nil=>[]
 | n+1,node l k w r=>ndT l k w r::wayT x n ((node l k w r).kid x)
theorem zcJ {x:Th}:∀{T:Tr},wayN x T=wayT x (wl x T) T
 | nil=>rfl
 | node l k w r=>by
  by_cases ek:k=x
  ·have e1:wl x (node l k w r)=1:=by show(if k=x then 1 else _)=1;rw[if_pos ek]
   rw[e1];show _::(if k=x then[] else _)=_;rw[if_pos ek];rfl
  ·have e1:wl x (node l k w r)=wl x ((node l k w r).kid x)+1:=by show(if k=x then 1 else(if zh k x=true then r.wl x else l.wl x)+1)=wl x (if zh k x=true then r else l)+1;rw[if_neg ek];split <;> rfl
   rw[e1,zli ek];show _=ndT l k w r::wayT x (wl x ((node l k w r).kid x)) ((node l k w r).kid x);congr 1;show wayN x (if zh k x=true then r else l)=wayT x (wl x (if zh k x=true then r else l)) (if zh k x=true then r else l);by_cases c:zh k x=true
   ·rw[if_pos c];exact zcJ
   ·rw[if_neg c];exact zcJ
theorem zg8 {x:Th}:∀{m n:Nat} {T:Tr},m<=n->(wayT x n T).take m=wayT x m T
 | 0,_,_,_=>by rw[List.take_zero];rfl
 | m+1,0,_,h=>Jh h (Nat.not_succ_le_zero m)
 | m+1,n+1,nil,_=>rfl
 | m+1,n+1,node l k w r,h=>congrArg (ndT l k w r:: ·) (zg8 (Nat.le_of_succ_le_succ h))
theorem zhk {x:Th}:∀{m n:Nat} {T:Tr},m<=n->(wayT x n T).drop m=wayT x (n - m) (down x m T)
 | 0,n,_,_=>rfl
 | m+1,0,_,h=>Jh h (Nat.not_succ_le_zero m)
 | m+1,n+1,nil,h=>by
  have e:wayT x (n+1) nil=[]:=rfl;rw[e,List.drop_nil];have:∀(j i:Nat),wayT x i (down x j nil)=[]:=λj=>by
   induction j with
   | zero=>intro i;cases i <;> rfl
   | succ j ih=>exact ih
  exact(this (m+1) _).symm
 | m+1,n+1,node l k w r,h=>by show(wayT x n ((node l k w r).kid x)).drop m=wayT x (n+1 - (m+1)) (down x m ((node l k w r).kid x));rw[zhk (Nat.le_of_succ_le_succ h),Nat.succ_sub_succ]
theorem zhq {x:Th}{more:Int}:∀{a b:List Nd} {n:Int},zb3 x more (a++b) n=(zb3 x more a n).bind (zb3 x more b)
 | [],_,_=>rfl
 | nd::a,b,n=>by show Pg.lay _ (zb3 x more (a++b) _)=Pg.lay _ ((zb3 x more a _).bind _);rw[zhq]
theorem zfF {A:Th->Prop}{x:Th}{e:Er->Vst->Prop}(hc:∀u t s',e (.clash u t) s'){more:Int}:∀{n:Nat} {T S:Tr} {s:Vst} {q:Int->Vst->Prop},TOk s.all T->S.InV s.all->(∀m,m < n->down x m T≠nil)->T.cnt+S.cnt<=300+(down x n T).cnt->more=(S.cnt:Int) - ((down x n T).cnt:Int)->n<=s.n->
  (∀s',Go A n s s'->(plug x n T S).InV s'.all->q (plug x n T S).root s')->(zb3 x more (wayT x n T).reverse S.root).wp s q e
 | 0,T,S,s,q,_,iS,_,_,_,_,h=>h s (Go.refl s) iS
 | n+1,nil,_,_,_,_,_,nn,_,_,_,_=>Jh rfl (nn 0 (Nat.zero_lt_succ _))
 | n+1,node l k w r,S,s,q,tk,iS,nn,h3,hm,hn,h=>by
  have kc:=zk9 (x:=x) (l:=l) (r:=r) (k:=k) (w:=w);show(zb3 x more (ndT l k w r::wayT x n ((node l k w r).kid x)).reverse S.root).wp s q e;have hd:down x (n+1) (node l k w r)=down x n ((node l k w r).kid x):=rfl;rw[hd] at h3 hm;rw[List.reverse_cons,zhq,Pg.wp_bind];refine zfF (A:=A) hc (n:=n) (T:=(node l k w r).kid x) tk.kid iS (λm hm=>nn (m+1) (JA hm)) (by omega) hm (by omega) λs1 g1 i1=>?_;have pc:=zgu (x:=x) (n:=n) (T:=(node l k w r).kid x) (S:=S) (λm hm=>nn (m+1) (JA hm));have tk1:=tk.go g1;have gn:=g1.n;have cn:=zM l k w r;generalize hP:plug x n ((node l k w r).kid x) S=Pj at pc i1;have hnew:plug x (n+1) (node l k w r) S=if zh k x=true then node l k w Pj else node Pj k w r:=by
   show(if zh k x=true then node l k w (plug x n r S) else node (plug x n l S) k w r)=_;by_cases c:zh k x=true
   ·have e1:(node l k w r).kid x=r:=if_pos c;rw[e1] at hP;rw[if_pos c,if_pos c,hP]
   ·have e1:(node l k w r).kid x=l:=if_neg c;rw[e1] at hP;rw[if_neg c,if_neg c,hP]
  rw[hnew] at h;have hlen:(l.ps++(k,w)::r.ps).length=(node l k w r).cnt:=rfl;by_cases c:zh k x=true
  ·rw[if_pos c] at h;have e1:(node l k w r).kid x=r:=if_pos c;rw[e1] at pc h3 hm;have cn2:=zM l k w Pj;have et:(zaw (ndT l k w r) (zc6 (ndT l k w r).k x) Pj.root ((ndT l k w r).c+more)).th=(node l k w Pj).thing:=by have e3:zc6 (ndT l k w r).k x=3:=if_pos c;rw[e3];show zbS k w l.root Pj.root ((((l.ps++(k,w)::r.ps).length:Nat):Int)+more)=zbS k w l.root Pj.root (((l.ps++(k,w)::Pj.ps).length:Nat):Int);have:(l.ps++(k,w)::Pj.ps).length=(node l k w Pj).cnt:=rfl;rw[show(((l.ps++(k,w)::r.ps).length:Nat):Int)+more=(((l.ps++(k,w)::Pj.ps).length:Nat):Int) by omega]
   show(Pg.lay _ (Pg.ret _)).wp s1 q e;rw[et];refine zcs (A:=A) (by omega) (zb7 tk.kw.1 tk.kw.2 (by omega)).2 hc λs2 g2 e2=>?_;exact h s2 ((g1.trans g2).mono (Jb _)) ⟨e2,(tk1.go g2).l.iv,InV.mono g2.al i1⟩
  ·rw[if_neg c] at h;have e1:(node l k w r).kid x=l:=if_neg c;rw[e1] at pc h3 hm;have cn2:=zM Pj k w r;have et:(zaw (ndT l k w r) (zc6 (ndT l k w r).k x) Pj.root ((ndT l k w r).c+more)).th=(node Pj k w r).thing:=by have e3:zc6 (ndT l k w r).k x=2:=if_neg c;rw[e3];show zbS k w Pj.root r.root ((((l.ps++(k,w)::r.ps).length:Nat):Int)+more)=zbS k w Pj.root r.root (((Pj.ps++(k,w)::r.ps).length:Nat):Int);have:(Pj.ps++(k,w)::r.ps).length=(node Pj k w r).cnt:=rfl;rw[show(((l.ps++(k,w)::r.ps).length:Nat):Int)+more=(((Pj.ps++(k,w)::r.ps).length:Nat):Int) by omega]
   show(Pg.lay _ (Pg.ret _)).wp s1 q e;rw[et];refine zcs (A:=A) (by omega) (zb7 tk.kw.1 tk.kw.2 (by omega)).2 hc λs2 g2 e2=>?_;exact h s2 ((g1.trans g2).mono (Jb _)) ⟨e2,InV.mono g2.al i1,(tk1.go g2).r.iv⟩
def zcQ (x:Th):List Nd->Int->Int->Int->Int->Pg (Int ×Int ×Int ×Int)
 | [],l,lc,r,rc=>.ret (l,lc,r,rc)
 | nd::t,l,lc,r,rc=>if zh nd.k x=true then .lay (zaw nd 3 l (nd.c - rc)).th (zcQ x t (zj (zaw nd 3 l (nd.c - rc)).th) (nd.c - rc) r rc)
  else .lay (zaw nd 2 r (nd.c - lc)).th (zcQ x t l lc (zj (zaw nd 2 r (nd.c - lc)).th) (nd.c - lc))
theorem zgB {x:Th}:∀{a:List Nd} {l lc r rc:Int},zfn x a l lc r rc=(zcQ x a l lc r rc).bind λy=>.ret (y.1,y.2.2.1)
 | [],_,_,_,_=>rfl
 | nd::a,l,lc,r,rc=>by
  unfold zfn zcQ;split
  ·show Pg.lay _ _=Pg.lay _ _;rw[zgB]
  ·show Pg.lay _ _=Pg.lay _ _;rw[zgB]
theorem zi4 {x:Th}{nd:Nd}{a:List Nd}{l lc r rc:Int}(h:zh nd.k x=true):zcQ x (nd::a) l lc r rc=.lay (zaw nd 3 l (nd.c - rc)).th (zcQ x a (zj (zaw nd 3 l (nd.c - rc)).th) (nd.c - rc) r rc):=if_pos h
theorem zi5 {x:Th}{nd:Nd}{a:List Nd}{l lc r rc:Int}(h:¬zh nd.k x=true):zcQ x (nd::a) l lc r rc=.lay (zaw nd 2 r (nd.c - lc)).th (zcQ x a l lc (zj (zaw nd 2 r (nd.c - lc)).th) (nd.c - lc)):=if_neg h
theorem zeN {x:Th}:∀{a b:List Nd} {l lc r rc:Int},zcQ x (a++b) l lc r rc=(zcQ x a l lc r rc).bind λy=>zcQ x b y.1 y.2.1 y.2.2.1 y.2.2.2
 | [],_,_,_,_,_=>rfl
 | nd::a,b,l,lc,r,rc=>by
  by_cases c:zh nd.k x=true
  ·rw[List.cons_append,zi4 c,zi4 c,zeN];rfl
  ·rw[List.cons_append,zi5 c,zi5 c,zeN];rfl
theorem zlb {A:Th->Prop}{x:Th}{e:Er->Vst->Prop}(hc:∀u t s',e (.clash u t) s'):∀{n:Nat} {T:Tr} {s:Vst} {q:Int ×Int ×Int ×Int->Vst->Prop},TOk s.all T->(∀m,m < n->down x m T≠nil)->n<=s.n->
  (∀s',Go A n s s'->(spl x n T).1.InV s'.all->(spl x n T).2.InV s'.all->q ((spl x n T).1.root,((spl x n T).1.cnt:Int),(spl x n T).2.root,((spl x n T).2.cnt:Int)) s')->(zcQ x (wayT x n T).reverse (down x n T).root ((down x n T).cnt:Int) 0 0).wp s q e
 | 0,T,s,q,tk,_,_,h=>h s (Go.refl s) tk.iv trivial
 | n+1,nil,_,_,_,nn,_,_=>Jh rfl (nn 0 (Nat.zero_lt_succ _))
 | n+1,node l k w r,s,q,tk,nn,hn,h=>by
  have hd:down x (n+1) (node l k w r)=down x n ((node l k w r).kid x):=rfl;rw[hd];show(zcQ x (ndT l k w r::wayT x n ((node l k w r).kid x)).reverse _ _ 0 0).wp s q e;rw[List.reverse_cons,zeN,Pg.wp_bind];have sc:=zfJ (x:=x) (n:=n) (T:=(node l k w r).kid x) (λm hm=>nn (m+1) (JA hm));refine zlb (A:=A) hc (n:=n) (T:=(node l k w r).kid x) tk.kid (λm hm=>nn (m+1) (JA hm)) (by omega) λs1 g1 i1 i2=>?_;have tk1:=tk.go g1;have gn:=g1.n;have cn:=zM l k w r;have ct:=tk.ct;have hlen:(l.ps++(k,w)::r.ps).length=(node l k w r).cnt:=rfl;have hnew:spl x (n+1) (node l k w r)=if zh k x=true then(node l k w (spl x n ((node l k w r).kid x)).1,(spl x n ((node l k w r).kid x)).2) else((spl x n ((node l k w r).kid x)).1,node (spl x n ((node l k w r).kid x)).2 k w r):=by
   show(if zh k x=true then(node l k w (spl x n r).1,(spl x n r).2) else((spl x n l).1,node (spl x n l).2 k w r))=_;by_cases c:zh k x=true
   ·have e1:(node l k w r).kid x=r:=if_pos c;rw[e1,if_pos c,if_pos c]
   ·have e1:(node l k w r).kid x=l:=if_neg c;rw[e1,if_neg c,if_neg c]
  rw[hnew] at h;generalize(spl x n ((node l k w r).kid x)).1=L at sc i1 h ⊢;generalize(spl x n ((node l k w r).kid x)).2=R at sc i2 h ⊢;show(if zh k x=true then Pg.lay (zaw (ndT l k w r) 3 L.root ((ndT l k w r).c - (R.cnt:Int))).th (Pg.ret (_,_,R.root,(R.cnt:Int))) else Pg.lay (zaw (ndT l k w r) 2 R.root ((ndT l k w r).c - (L.cnt:Int))).th (Pg.ret (L.root,(L.cnt:Int),_,_))).wp s1 q e;by_cases c:zh k x=true
  ·rw[if_pos c] at h ⊢;have e1:(node l k w r).kid x=r:=if_pos c;rw[e1] at sc;have cn2:=zM l k w L;have hl2:(l.ps++(k,w)::L.ps).length=(node l k w L).cnt:=rfl;have ec:(ndT l k w r).c - (R.cnt:Int)=((node l k w L).cnt:Int):=by show(((l.ps++(k,w)::r.ps).length:Nat):Int) - _=_;omega
   rw[ec];have et:(zaw (ndT l k w r) 3 L.root ((node l k w L).cnt:Int)).th=(node l k w L).thing:=rfl;rw[et];refine zcs (A:=A) (by omega) (zb7 tk.kw.1 tk.kw.2 (by omega)).2 hc λs2 g2 e2=>?_;exact h s2 (g1.trans g2) ⟨e2,(tk1.go g2).l.iv,InV.mono g2.al i1⟩ (InV.mono g2.al i2)
  ·rw[if_neg c] at h ⊢;have e1:(node l k w r).kid x=l:=if_neg c;rw[e1] at sc;have cn2:=zM R k w r;have hl2:(R.ps++(k,w)::r.ps).length=(node R k w r).cnt:=rfl;have ec:(ndT l k w r).c - (L.cnt:Int)=((node R k w r).cnt:Int):=by show(((l.ps++(k,w)::r.ps).length:Nat):Int) - _=_;omega
   rw[ec];have et:(zaw (ndT l k w r) 2 R.root ((node R k w r).cnt:Int)).th=(node R k w r).thing:=rfl;rw[et];refine zcs (A:=A) (by omega) (zb7 tk.kw.1 tk.kw.2 (by omega)).2 hc λs2 g2 e2=>?_;exact h s2 (g1.trans g2) (InV.mono g2.al i1) ⟨e2,InV.mono g2.al i2,(tk1.go g2).r.iv⟩
theorem ze6 {x:Th}:∀{n:Nat} {T l r:Tr} {k w:Th},down x n T=node l k w r->(∀m,m < n->down x m T≠nil)->wayT x (n+1) T=wayT x n T++ [ndT l k w r]
 | 0,node l' k' w' r',l,r,k,w,e,_=>by cases e;rfl
 | 0,nil,_,_,_,_,e,_=>by cases e
 | n+1,nil,_,_,_,_,_,h=>Jh rfl (h 0 (Nat.zero_lt_succ _))
 | n+1,node l' k' w' r',l,r,k,w,e,h=>congrArg (ndT l' k' w' r':: ·) (ze6 (n:=n) (T:=(node l' k' w' r').kid x) e λm hm=>h (m+1) (JA hm))
theorem zeu {x:Th}:∀{T:Tr},own x T=nil->∀nd∈wayN x T,nd.k≠x
 | nil,_,nd,h=>by cases h
 | node l k w r,h,nd,hn=>by
  unfold own at h;by_cases e:k=x
  ·rw[if_pos e] at h;cases h
  ·rw[if_neg e] at h;have hn':nd∈ndT l k w r::(if k=x then[] else if zh k x=true then wayN x r else wayN x l):=hn;rw[if_neg e] at hn';rcases List.mem_cons.mp hn' with rfl | hn'
   ·exact e
   ·by_cases c:zh k x=true
    ·rw[if_pos c] at h hn';exact zeu h nd hn'
    ·rw[if_neg c] at h hn';exact zeu h nd hn'
theorem zeO {x:Th}:∀{T:Tr},own x T=nil->zbd x (wayN x T)=plc x T
 | nil,_=>rfl
 | node l k w r,h=>by
  unfold own at h;by_cases e:k=x
  ·rw[if_pos e] at h;cases h
  ·rw[if_neg e] at h;show(if zaI x k=true then 0 else zbd x (if k=x then[] else if zh k x=true then wayN x r else wayN x l)+1)=(if zaI x k=true then 0 else(if zh k x=true then r.plc x else l.plc x)+1);rw[if_neg e];by_cases c:zh k x=true
   ·rw[if_pos c] at h;rw[if_pos c,if_pos c,zeO h]
   ·rw[if_neg c] at h;rw[if_neg c,if_neg c,zeO h]
theorem znS {x:Th}:∀{n i:Nat} {T:Tr},i<=n->(∀m,m < n->down x m T≠nil)->down x n T=nil->zek (wayT x n T) i=((down x i T).cnt:Int)
 | 0,0,T,_,_,e=>by have e':T=nil:=e;subst e';rfl
 | 0,i+1,_,h,_,_=>Jh h (Nat.not_succ_le_zero i)
 | n+1,_,nil,_,h,_=>Jh rfl (h 0 (Nat.zero_lt_succ _))
 | n+1,0,node l k w r,_,_,_=>rfl
 | n+1,i+1,node l k w r,hi,h,e=>znS (n:=n) (i:=i) (T:=(node l k w r).kid x) (Nat.le_of_succ_le_succ hi) (λm hm=>h (m+1) (JA hm)) e
def zm7 {A:Th->Prop}{x wo:Th}{e:Er->Vst->Prop}(hc:∀u t s',e (.clash u t) s'){T:Tr}{s:Vst}{q:Int->Vst->Prop}(tk:TOk s.all T)(c9:T.cnt<=299)(kx:KeyT x)(kw:KeyT wo)(hn:1000<=s.n)(hA:∀nd∈wayN x T,A nd.th)(h:∀s',Go A 1000 s s'->(putT x wo T).InV s'.all->q (putT x wo T).root s'):(putP T.root x wo).wp s q e:=by
 unfold putP;rw[Pg.wp_bind];refine zjD (A:=A) tk (by omega) (by omega) (by omega) hA λs1 g1 _=>?_;have tk1:=tk.go g1;have gn:=g1.n;have hwl:=zkB (x:=x) T;cases z:own x T with
 | node l k w r=>
  obtain⟨rfl,n,ewl,up,ed⟩:=zcP z;have ew:wayN k T=wayT k n T++ [ndT l k w r]:=by rw[zcJ,ewl,ze6 ed (up_down up)]
  have ek:zel k wo (wayN k T)=putO k wo (wayN k T) (ndT l k w r):=by unfold zel;rw[ew,List.getLast?_concat];exact if_pos rfl
  rw[ek];unfold putO;rw[ew,List.dropLast_concat];have hlen:(l.ps++(k,w)::r.ps).length=(l.ps++(k,wo)::r.ps).length:=by simp
  have et:(Nd.mk k wo (ndT l k w r).l (ndT l k w r).r (ndT l k w r).c).th=(node l k wo r).thing:=by show zbS k wo l.root r.root (((l.ps++(k,w)::r.ps).length:Nat):Int)=zbS k wo l.root r.root (((l.ps++(k,wo)::r.ps).length:Nat):Int);rw[hlen]
  rw[et];have hcn:(node l k wo r).cnt=(node l k w r).cnt:=by rw[zM,zM]
  have hdc:(node l k w r).cnt<=T.cnt:=by rw[<-ed];exact zdo
  have td:=tk1.down (x:=k) (n:=n);rw[ed] at td;refine zcs (A:=A) (by omega) (zb7 kx kw (by omega)).2 hc λs2 g2 e2=>?_;have gn2:=g2.n;have ep:putT k wo T=plug k n T (node l k wo r):=by unfold putT;rw[z,ewl,Nat.add_sub_cancel]
  rw[ep] at h;exact zfF (A:=A) hc (S:=node l k wo r) (tk1.go g2) ⟨e2,(td.go g2).l.iv,(td.go g2).r.iv⟩ (up_down up) (by rw[ed,hcn];omega) (by rw[ed,hcn];omega) (by omega) λs3 g3 i3=>h s3 ((g1.trans (g2.trans g3)).mono (by omega)) i3
 | nil=>
  obtain⟨up,dn⟩:=zed z;have hpl:=zhV z;have ek:zel x wo (wayN x T)=putN x wo (wayN x T):=by
   unfold zel;cases y:(wayN x T).getLast? with
   | none=>rfl
   | some nd=>exact if_neg (zeu z nd (List.mem_of_getLast? y))
  rw[ek];unfold putN;rw[zeO z,zgB];generalize hp:plc x T=pl at hpl;have hdn:down x (wl x T - pl) (down x pl T)=nil:=by rw[<-zgn,show pl+(wl x T - pl)=wl x T by omega];exact dn
  have hnn:∀m,m < wl x T - pl->down x m (down x pl T)≠nil:=λm hm=>by rw[<-zgn];exact up_down up _ (by omega)
  have ecn:zek (wayN x T) pl=((down x pl T).cnt:Int):=by rw[zcJ];exact znS hpl (up_down up) dn
  rw[ecn,zcJ,zhk hpl,zg8 hpl,Pg.wp_bind,Pg.wp_bind];have hdc:(down x pl T).cnt<=T.cnt:=zdo;have hsc:=zfJ hnn;have key:=zlb (A:=A) (x:=x) (e:=e) hc (n:=wl x T - pl) (T:=down x pl T) (s:=s1) (q:=λy s'=>(Pg.ret (y.1,y.2.2.1)).wp s' (λlr s'=>(Pg.lay (Nd.mk x wo lr.1 lr.2 (((down x pl T).cnt:Int)+1)).th (zb3 x 1 (wayT x pl T).reverse (zj (Nd.mk x wo lr.1 lr.2 (((down x pl T).cnt:Int)+1)).th))).wp s' q e) e) tk1.down hnn (by omega);rw[hdn] at key;refine key λs2 g2 i1 i2=>?_;clear key;have gn2:=g2.n;have hpq:putT x wo T=plug x pl T (node (spl x (wl x T - pl) (down x pl T)).1 x wo (spl x (wl x T - pl) (down x pl T)).2):=by unfold putT;rw[z,hp]
  rw[hpq] at h;generalize(spl x (wl x T - pl) (down x pl T)).1=L at i1 hsc h ⊢;generalize(spl x (wl x T - pl) (down x pl T)).2=R at i2 hsc h ⊢;have hcn:=zM L x wo R;have et:(Nd.mk x wo L.root R.root (((down x pl T).cnt:Int)+1)).th=(node L x wo R).thing:=by show zbS x wo L.root R.root (((down x pl T).cnt:Int)+1)=zbS x wo L.root R.root (((L.ps++(x,wo)::R.ps).length:Nat):Int);have:(L.ps++(x,wo)::R.ps).length=(node L x wo R).cnt:=rfl;rw[show((down x pl T).cnt:Int)+1=(((L.ps++(x,wo)::R.ps).length:Nat):Int) by omega]
  show(Pg.lay (Nd.mk x wo L.root R.root (((down x pl T).cnt:Int)+1)).th (zb3 x 1 (wayT x pl T).reverse (zj (Nd.mk x wo L.root R.root (((down x pl T).cnt:Int)+1)).th))).wp s2 q e;rw[et];refine zcs (A:=A) (by omega) (zb7 kx kw (by omega)).2 hc λs3 g3 e3=>?_;have gn3:=g3.n;exact zfF (A:=A) hc (S:=node L x wo R) ((tk1.go g2).go g3) ⟨e3,InV.mono g3.al i1,InV.mono g3.al i2⟩ (up_down (zhY up hpl)) (by omega) (by omega) (by omega) λs4 g4 i4=>h s4 ((g1.trans (g2.trans (g3.trans g4))).mono (by omega)) i4
def znm:Tr->List Nd
 | nil=>[]
 | node l k w r=>ndT l k w r::znm r
def znF:Tr->List Nd
 | nil=>[]
 | node l k w r=>ndT l k w r::znF l
theorem zie:∀{a b:List Js} {n:Int},upP (a++b) n=(upP a n).bind (upP b)
 | [],_,_=>rfl
 | j::a,b,n=>by show Pg.lay _ (upP (a++b) _)=Pg.lay _ ((upP a _).bind _);rw[zie]
def zgh (L R:Tr):(joinT L R).cnt=L.cnt+R.cnt:=by unfold Tr.cnt;rw[zfT,List.length_append]
def zo2 {A:Th->Prop}{e:Er->Vst->Prop}(hc:∀u t s',e (.clash u t) s'){f:Nat}:∀{L R:Tr} {lc rc:Int} {s:Vst} {q:Int->Vst->Prop},TOk s.all L->TOk s.all R->(L.cnt:Int) < lc->(R.cnt:Int) < rc->L.cnt+R.cnt<=300->L.cnt+R.cnt < f->3 * (L.cnt+R.cnt)<=s.n->(∀nd∈znm L,A nd.th)->(∀nd∈znF R,A nd.th)->
  (∀s',Go A (3 * (L.cnt+R.cnt)) s s'->(joinT L R).InV s'.all->q (joinT L R).root s')->(joinR f L.root lc R.root rc).wp s (λy s'=>(upP y.1.reverse y.2).wp s' q e) e:=by
 induction f with
 | zero=>intro L R _ _ _ _ _ _ _ _ _ h;exact Jh h (Nat.not_lt_zero _)
 | succ f ih=>
  intro L R lc rc s q tl tr hl hr h3 hf hn hA hB h;cases L with
  | nil=>
   unfold joinR;rw[if_pos (show(Tr.nil).root=0 from rfl)];have ej:joinT nil R=R:=by rw[joinT]
   rw[ej] at h;exact h s ((Go.refl s).mono (Nat.zero_le _)) tr.iv
  | node l k w r=>
   cases R with
   | nil=>unfold joinR;rw[if_neg (λz=>by cases zdD.mp z),if_pos (show(Tr.nil).root=0 from rfl)];rw[zlL] at h;exact h s ((Go.refl s).mono (Nat.zero_le _)) tl.iv
   | node l' k' w' r'=>
    have c1:=zM l k w r;have c2:=zM l' k' w' r';unfold joinR;rw[if_neg (λz=>by cases zdD.mp z),if_neg (λz=>by cases zdD.mp z),Pg.wp_bind];refine zh6 (A:=A) tl hl (by omega) (hA _ List.mem_cons_self) λs1 g1 _=>?_;have n1:=g1.n;rw[Pg.wp_bind];refine zh6 (A:=A) (tr.go g1) hr (by omega) (hB _ List.mem_cons_self) λs2 g2 _=>?_;have n2:=g2.n;have g12:=g1.trans g2;have tl2:=tl.go g12;have tr2:=tr.go g12;have hb:(ndT l k w r).c+(ndT l' k' w' r').c=(((node l k w r).cnt+(node l' k' w' r').cnt:Nat):Int):=by show(((l.ps++(k,w)::r.ps).length:Nat):Int)+(((l'.ps++(k',w')::r'.ps).length:Nat):Int)=_;have:(l.ps++(k,w)::r.ps).length=(node l k w r).cnt:=rfl;have:(l'.ps++(k',w')::r'.ps).length=(node l' k' w' r').cnt:=rfl;omega
    by_cases c:zaI k k'=true
    ·rw[if_pos (show zaI (ndT l k w r).k (ndT l' k' w' r').k=true from c),Pg.wp_bind];have ej:joinT (node l k w r) (node l' k' w' r')=node l k w (joinT r (node l' k' w' r')):=by rw[joinT,if_pos c]
     rw[ej] at h;have jc:=zgh r (node l' k' w' r');have cn:=zM l k w (joinT r (node l' k' w' r'));have key:=ih (L:=r) (R:=node l' k' w' r') (lc:=(ndT l k w r).c) (rc:=rc) (s:=s2) (q:=λn s'=>(upP [⟨ndT l k w r,3,(ndT l k w r).c+(ndT l' k' w' r').c⟩] n).wp s' q e) tl2.r tr2
      (by show(r.cnt:Int) < (((l.ps++(k,w)::r.ps).length:Nat):Int);have:(l.ps++(k,w)::r.ps).length=(node l k w r).cnt:=rfl;omega) hr (by omega) (by omega) (by omega) (λnd hd=>hA nd (Jn _ hd)) hB
     refine Pg.wp_mono (λy s' z=>?_) (λ_ _ z=>z) (key λs3 g3 i3=>?_)
     ·show(upP (_::y.1).reverse y.2).wp s' q e;rw[List.reverse_cons,zie,Pg.wp_bind];exact z
     ·have n3:=g3.n;show(Pg.lay (zaw (ndT l k w r) 3 (joinT r (node l' k' w' r')).root ((ndT l k w r).c+(ndT l' k' w' r').c)).th (Pg.ret _)).wp s3 q e;have et:(zaw (ndT l k w r) 3 (joinT r (node l' k' w' r')).root ((ndT l k w r).c+(ndT l' k' w' r').c)).th=(node l k w (joinT r (node l' k' w' r'))).thing:=by
       rw[hb];show zbS k w l.root _ (((node l k w r).cnt+(node l' k' w' r').cnt:Nat):Int)=zbS k w l.root _ (((l.ps++(k,w)::(joinT r (node l' k' w' r')).ps).length:Nat):Int);have:(l.ps++(k,w)::(joinT r (node l' k' w' r')).ps).length=(node l k w (joinT r (node l' k' w' r'))).cnt:=rfl;rw[show(node l k w r).cnt+(node l' k' w' r').cnt=(l.ps++(k,w)::(joinT r (node l' k' w' r')).ps).length by omega]
       rfl
      rw[et];refine zcs (A:=A) (by omega) (zb7 tl.kw.1 tl.kw.2 (by omega)).2 hc λs4 g4 e4=>?_;exact h s4 ((g12.trans (g3.trans g4)).mono (by omega)) ⟨e4,((tl2.go g3).go g4).l.iv,InV.mono g4.al i3⟩
    ·rw[if_neg (show¬zaI (ndT l k w r).k (ndT l' k' w' r').k=true from c),Pg.wp_bind];have ej:joinT (node l k w r) (node l' k' w' r')=node (joinT (node l k w r) l') k' w' r':=by rw[joinT,if_neg c]
     rw[ej] at h;have jc:=zgh (node l k w r) l';have cn:=zM (joinT (node l k w r) l') k' w' r';have key:=ih (L:=node l k w r) (R:=l') (lc:=lc) (rc:=(ndT l' k' w' r').c) (s:=s2) (q:=λn s'=>(upP [⟨ndT l' k' w' r',2,(ndT l k w r).c+(ndT l' k' w' r').c⟩] n).wp s' q e) tl2 tr2.l hl
      (by show(l'.cnt:Int) < (((l'.ps++(k',w')::r'.ps).length:Nat):Int);have:(l'.ps++(k',w')::r'.ps).length=(node l' k' w' r').cnt:=rfl;omega) (by omega) (by omega) (by omega) hA (λnd hd=>hB nd (Jn _ hd))
     refine Pg.wp_mono (λy s' z=>?_) (λ_ _ z=>z) (key λs3 g3 i3=>?_)
     ·show(upP (_::y.1).reverse y.2).wp s' q e;rw[List.reverse_cons,zie,Pg.wp_bind];exact z
     ·have n3:=g3.n;show(Pg.lay (zaw (ndT l' k' w' r') 2 (joinT (node l k w r) l').root ((ndT l k w r).c+(ndT l' k' w' r').c)).th (Pg.ret _)).wp s3 q e;have et:(zaw (ndT l' k' w' r') 2 (joinT (node l k w r) l').root ((ndT l k w r).c+(ndT l' k' w' r').c)).th=(node (joinT (node l k w r) l') k' w' r').thing:=by
       rw[hb];show zbS k' w' _ r'.root (((node l k w r).cnt+(node l' k' w' r').cnt:Nat):Int)=zbS k' w' _ r'.root ((((joinT (node l k w r) l').ps++(k',w')::r'.ps).length:Nat):Int);have:((joinT (node l k w r) l').ps++(k',w')::r'.ps).length=(node (joinT (node l k w r) l') k' w' r').cnt:=rfl;rw[show(node l k w r).cnt+(node l' k' w' r').cnt=((joinT (node l k w r) l').ps++(k',w')::r'.ps).length by omega]
       rfl
      rw[et];refine zcs (A:=A) (by omega) (zb7 tr.kw.1 tr.kw.2 (by omega)).2 hc λs4 g4 e4=>?_;exact h s4 ((g12.trans (g3.trans g4)).mono (by omega)) ⟨e4,InV.mono g4.al i3,((tr2.go g3).go g4).r.iv⟩
def gapN (x:Th)(T:Tr):List Nd:=match own x T with
 | nil=>[]
 | node l _ _ r=>znm l++znF r
def zqB {A:Th->Prop}{x:Th}{e:Er->Vst->Prop}(hc:∀u t s',e (.clash u t) s'){T:Tr}{s:Vst}{q:Int->Vst->Prop}(tk:TOk s.all T)(hn:3000<=s.n)(hA:∀nd∈wayN x T,A nd.th)(hB:∀nd∈gapN x T,A nd.th)(h:∀s',Go A 3000 s s'->(cutT x T).InV s'.all->q (cutT x T).root s'):(cutP T.root x).wp s q e:=by
 have ct:=tk.ct;unfold cutP;rw[Pg.wp_bind];refine zjD (A:=A) tk (by omega) (by omega) (by omega) hA λs1 g1 _=>?_;have tk1:=tk.go g1;have gn:=g1.n;have hwl:=zkB (x:=x) T;unfold gapN at hB;unfold cutK;cases z:own x T with
 | node l k w r=>
  rw[z] at hB;obtain⟨rfl,n,ewl,up,ed⟩:=zcP z;have ew:wayN k T=wayT k n T++ [ndT l k w r]:=by rw[zcJ,ewl,ze6 ed (up_down up)]
  rw[ew,List.getLast?_concat];have ep:cutT k T=plug k n T (joinT l r):=by unfold cutT;rw[z,ewl,Nat.add_sub_cancel]
  rw[ep] at h;have hdc:(node l k w r).cnt<=T.cnt:=by rw[<-ed];exact zdo
  have td:=tk1.down (x:=k) (n:=n);rw[ed] at td;have cn:=zM l k w r;have jc:=zgh l r;have hlen:(l.ps++(k,w)::r.ps).length=(node l k w r).cnt:=rfl;show(if (ndT l k w r).k=k then _ else _:Pg Int).wp s1 q e;rw[if_pos (show(ndT l k w r).k=k from rfl),Pg.wp_bind];unfold ziQ;rw[Pg.wp_bind,List.dropLast_concat];have dc:((ndT l k w r).c)=((node l k w r).cnt:Int):=rfl;rw[dc];refine zo2 (A:=A) hc (L:=l) (R:=r) td.l td.r (by omega) (by omega) (by omega) (by omega) (by omega) (λnd hd=>hB nd (Jq _ hd)) (λnd hd=>hB nd (Jj _ hd)) λs2 g2 i2=>?_;have gn2:=g2.n;exact zfF (A:=A) hc (S:=joinT l r) (tk1.go g2) i2 (up_down up) (by rw[ed];omega) (by rw[ed];omega) (by omega) λs3 g3 i3=>h s3 ((g1.trans (g2.trans g3)).mono (by omega)) i3
 | nil=>
  have ep:cutT x T=T:=by unfold cutT;rw[z]
  rw[ep] at h;cases y:(wayN x T).getLast? with
  | none=>exact h s1 (g1.mono (by omega)) tk1.iv
  | some nd=>show(if nd.k=x then _ else _:Pg Int).wp s1 q e;rw[if_neg (zeu z nd (List.mem_of_getLast? y))];exact h s1 (g1.mono (by omega)) tk1.iv
end Pv
namespace Pv
open PySem L2
inductive Pg.Run {α:Type}:Pg α->Vst->Except Er α->Vst->Prop
 | ret {x:α} {s:Vst}:Pg.Run (.ret x) s (.ok x) s
 | bad {s:Vst}:Pg.Run .bad s (.error .bad) s
 | rd {n:Int} {k:Th->Pg α} {s s1 s':Vst} {t:Th} {r:Except Er α}:s.look n=some (t,s1)->Pg.Run (k t) s1 r s'->Pg.Run (.rd n k) s r s'
 | lacks {n:Int} {k:Th->Pg α} {s:Vst}:s.look n=none->Pg.Run (.rd n k) s (.error .lacks) s
 | lay {t:Th} {k:Pg α} {s s':Vst} {r:Except Er α}:s.stop t=none->Pg.Run k (s.add t) r s'->Pg.Run (.lay t k) s r s'
 | clash {t u:Th} {k:Pg α} {s:Vst}:s.stop t=some u->Pg.Run (.lay t k) s (.error (.clash u t)) s
inductive Pg.Fit {α:Type}:Pg α->Vst->Prop
 | ret {x:α} {s:Vst}:Pg.Fit (.ret x) s
 | bad {s:Vst}:Pg.Fit .bad s
 | rd {n:Int} {k:Th->Pg α} {s:Vst}:0 < s.n->(∀t s1,s.look n=some (t,s1)->Pg.Fit (k t) s1)->Pg.Fit (.rd n k) s
 | lay {t:Th} {k:Pg α} {s:Vst}:0 < s.n->Good t->(s.stop t=none->Pg.Fit k (s.add t))->Pg.Fit (.lay t k) s
theorem Pg.wp_of {α:Type}{q:α->Vst->Prop}{e:Er->Vst->Prop}:∀{p:Pg α} {s:Vst},p.Fit s->(∀x s',Pg.Run p s (.ok x) s'->q x s')->(∀r s',Pg.Run p s (.error r) s'->e r s')->p.wp s q e
 | .ret x,s,_,hq,_=>hq x s .ret
 | .bad,s,_,_,he=>he _ s .bad
 | .rd n k,s,.rd h0 hf,hq,he=>⟨h0,λt s' z=>wp_of (hf t s' z) (λx s2 r=>hq x s2 (.rd z r)) (λr s2 y=>he r s2 (.rd z y)),λz=>he _ s (.lacks z)⟩
 | .lay t k,s,.lay h0 hg hf,hq,he=>⟨h0,hg,λz=>wp_of (hf z) (λx s2 r=>hq x s2 (.lay z r)) (λr s2 y=>he r s2 (.lay z y)),λu z=>he _ s (.clash z)⟩
theorem Pg.of_wp {α:Type}{q:α->Vst->Prop}{e:Er->Vst->Prop}:∀{p:Pg α} {s:Vst},p.wp s q e->p.Fit s/\(∀x s',Pg.Run p s (.ok x) s'->q x s')/\(∀r s',Pg.Run p s (.error r) s'->e r s')
 | .ret x,s,h=>⟨.ret,λy s' r=>by cases r;exact h,λ_ _ r=>by cases r⟩
 | .bad,s,h=>⟨.bad,λ_ _ r=>(by cases r),λ_ _ r=>by cases r;exact h⟩
 | .rd n k,s,⟨h0,h1,h2⟩=>by
  refine⟨.rd h0 λt s1 z=>(of_wp (h1 t s1 z)).1,λx s' r=>?_,λr s' y=>?_⟩
  ·cases r with
   | rd z r=>exact(of_wp (h1 _ _ z)).2.1 x s' r
  ·cases y with
   | rd z r=>exact(of_wp (h1 _ _ z)).2.2 _ s' r
   | lacks z=>exact h2 z
 | .lay t k,s,⟨h0,hg,h1,h2⟩=>by
  refine⟨.lay h0 hg λz=>(of_wp (h1 z)).1,λx s' r=>?_,λr s' y=>?_⟩
  ·cases r with
   | lay z r=>exact(of_wp (h1 z)).2.1 x s' r
  ·cases y with
   | lay z r=>exact(of_wp (h1 z)).2.2 _ s' r
   | clash z=>exact h2 _ z
def zpf {s s':Vst}{n:Int}{t:Th}(h:s.look n=some (t,s')):Sub s.nt s'.nt:=by
 cases z:zf s.own n with
 | some u=>rw[Vst.look_own z] at h;cases h;exact Sub.refl _
 | none=>
  cases y:zf s.kp n with
  | some u=>rw[Vst.look_kp z y] at h;cases h;exact zoS
  | none=>rw[Vst.look_no z y] at h;cases h
def Pg.Run.nt {α:Type}{p:Pg α}{s s':Vst}{r:Except Er α}(h:Pg.Run p s r s'):Sub s.nt s'.nt:=by
 induction h with
 | ret=>exact Sub.refl _
 | bad=>exact Sub.refl _
 | rd z _ ih=>exact(zpf z).trans ih
 | lacks=>exact Sub.refl _
 | lay _ _ ih=>exact ih
 | clash=>exact Sub.refl _
def zk8 {a b:QF}{t:Th}(h:Sub a b)(hb:zf b (zj t)=none\/zf b (zj t)=some t):Sub (addT a (zj t) t) (addT b (zj t) t):=λn u e=>by
 rcases zaQ e with e | ⟨rfl,rfl⟩
 ·exact zaY (h n u e)
 ·exact zar hb
def ze4 {s s':Vst}{n:Int}{t:Th}(h:s.look n=some (t,s')):s'.n=s.n - 1:=by
 cases z:zf s.own n with
 | some u=>rw[Vst.look_own z] at h;cases h;rfl
 | none=>
  cases y:zf s.kp n with
  | none=>rw[Vst.look_no z y] at h;cases h
  | some u=>rw[Vst.look_kp z y] at h;cases h;rfl
def zf1 {s s':Vst}{n:Int}{t:Th}(su:Sub s.nt s.kp)(h:s.look n=some (t,s')):s'.own=s.own/\s'.kp=s.kp/\Sub s'.nt s'.kp/\(zf s.own n=some t\/(zf s.own n=none/\zf s'.nt n=some t))/\∀m,m≠n->zf s'.nt m=zf s.nt m:=by
 cases z:zf s.own n with
 | some u=>rw[Vst.look_own z] at h;cases h;exact⟨rfl,rfl,su,.inl rfl,λ_ _=>rfl⟩
 | none=>
  cases y:zf s.kp n with
  | none=>rw[Vst.look_no z y] at h;cases h
  | some u=>
   rw[Vst.look_kp z y] at h;cases h;have ft:Fits s.nt n t:=by
    cases x:zf s.nt n with
    | none=>exact .inl x
    | some v=>have:=su _ _ x;rw[y] at this;cases this;exact .inr x
   refine⟨rfl,rfl,λm v e=>?_,.inr ⟨rfl,zar ft⟩,λm hm=>?_⟩
   ·rcases zaQ e with e | ⟨rfl,rfl⟩
    ·exact su _ _ e
    ·exact y
   ·show zf (addT s.nt n t) m=zf s.nt m;rcases ft with ft | ft
    ·rw[zbR ft,zaS];cases zf s.nt m with
     | some v=>rfl
     | none=>exact if_neg λz=>hm z.symm
    ·rw[zbQ ft]
def ziL {w:Vst}{t:Th}(hk:w.kp=[])(h:w.stop t=none):zf w.own (zj t)=none\/zf w.own (zj t)=some t:=by have:=zcK h;unfold Vst.all at this;rw[hk,List.append_nil] at this;exact this
def Pg.sim {α:Type}{p:Pg α}{s s':Vst}{r:Except Er α}(h:Pg.Run p s r s'):∀{x:α} {w:Vst},r=.ok x->p.Fit s->s.n<=w.n->Sub s.nt s.kp->Sub s.own w.own->w.kp=[]->Sub s'.nt w.own->p.Fit w/\∃w',Pg.Run p w (.ok x) w'\/∃u t,Pg.Run p w (.error (.clash u t)) w':=by
 induction h with
 | ret=>intro x w e _ _ _ _ _ _;cases e;exact⟨.ret,w,.inl .ret⟩
 | bad=>intro x w e;cases e
 | lacks=>intro x w e;cases e
 | clash=>intro x w e;cases e
 | @rd n k s s1 s' t r z hr ih=>
  intro x w e fi hwn su ho hk hn;obtain⟨e1,e2,su1,hl,_⟩:=zf1 su z;have sn:=ze4 z;cases fi with
  | rd f0 ff=>
  have lw:zf w.own n=some t:=by
   rcases hl with hl | ⟨_,hl⟩
   ·exact ho _ _ hl
   ·exact hn _ _ (hr.nt _ _ hl)
  obtain⟨fw,w',hw⟩:=ih (w:={w with n:=w.n - 1}) e (ff _ _ z) (by show s1.n<=w.n - 1;omega) su1 (by rw[e1];exact ho) hk hn;refine⟨.rd (by omega) λt' w1 z'=>(by rw[Vst.look_own lw] at z';cases z';exact fw),w',?_⟩;rcases hw with hw | ⟨u,v,hw⟩
  ·exact .inl (.rd (Vst.look_own lw) hw)
  ·exact .inr ⟨u,v,.rd (Vst.look_own lw) hw⟩
 | @lay t k s s' r z hr ih=>
  intro x w e fi hwn su ho hk hn;cases fi with
  | lay f0 fg ff=>
  cases y:w.stop t with
  | some u=>exact⟨.lay (by omega) fg λz'=>(by rw[y] at z';cases z'),w,.inr ⟨u,t,.clash y⟩⟩
  | none=>
   obtain⟨fw,w',hw⟩:=ih (w:=w.add t) e (ff z) (by show s.n - 1<=w.n - 1;omega) su (zk8 ho (ziL hk y)) hk λn v e=>zaY (hn n v e);refine⟨.lay (by omega) fg λ_=>fw,w',?_⟩;rcases hw with hw | ⟨u,v,hw⟩
   ·exact .inl (.lay y hw)
   ·exact .inr ⟨u,v,.lay y hw⟩
def Pg.Run.noted {α:Type}{p:Pg α}{s s':Vst}{r:Except Er α}(h:Pg.Run p s r s'):∀{m:Int} {t:Th},Sub s.nt s.kp->zf s.own m=some t->zf s'.nt m=zf s.nt m:=by
 induction h with
 | ret=>intros;rfl
 | bad=>intros;rfl
 | lacks=>intros;rfl
 | clash=>intros;rfl
 | @rd n k s s1 s' t r z hr ih=>
  intro m u su ho;obtain⟨e1,e2,su1,hl,hm⟩:=zf1 su z;rw[ih (m:=m) (t:=u) su1 (by rw[e1];exact ho)];by_cases e:m=n
  ·subst e;rw[Vst.look_own ho] at z;cases z;rfl
  ·exact hm m e
 | @lay t k s s' r z hr ih=>intro m u su ho;exact ih (m:=m) (t:=u) su (zaY ho)
def Pg.lack {α:Type}{p:Pg α}{s s':Vst}{r:Except Er α}(h:Pg.Run p s r s'):∀{x:α} {w:Vst} {n0:Int} {t0:Th},r=.ok x->p.Fit s->s.n<=w.n->Sub s.nt s.kp->Sub s.own w.own->w.kp=[]->(∀n t,n≠n0->zf s'.nt n=some t->zf w.own n=some t)->zf s.nt n0=none->zf s'.nt n0=some t0->zf w.own n0=none->
  p.Fit w/\∃w',Pg.Run p w (.error .lacks) w'\/∃u t,Pg.Run p w (.error (.clash u t)) w':=by
 induction h with
 | ret=>intro x w n0 t0 e _ _ _ _ _ _ h1 h2;rw[h1] at h2;cases h2
 | bad=>intro x w n0 t0 e;cases e
 | lacks=>intro x w n0 t0 e;cases e
 | clash=>intro x w n0 t0 e;cases e
 | @rd n k s s1 s' t r z hr ih=>
  intro x w n0 t0 e fi hwn su ho hk hn h1 h2 h3;have sn:=ze4 z;cases fi with
  | rd f0 ff=>
  obtain⟨e1,e2,su1,hl,hm⟩:=zf1 su z;by_cases en:n=n0
  ·subst en;have lno:=Vst.look_no h3 (show zf w.kp n=none by rw[hk];rfl);exact⟨.rd (by omega) λt' w1 z'=>(by rw[lno] at z';cases z'),w,.inl (.lacks lno)⟩
  ·have lw:zf w.own n=some t:=by
    rcases hl with hl | ⟨_,hl⟩
    ·exact ho _ _ hl
    ·exact hn _ _ en (hr.nt _ _ hl)
   obtain⟨fw,w',hw⟩:=ih (w:={w with n:=w.n - 1}) e (ff _ _ z) (by show s1.n<=w.n - 1;omega) su1 (by rw[e1];exact ho) hk hn (by rw[hm n0 λy=>en y.symm];exact h1) h2 h3;refine⟨.rd (by omega) λt' w1 z'=>(by rw[Vst.look_own lw] at z';cases z';exact fw),w',?_⟩;rcases hw with hw | ⟨u,v,hw⟩
   ·exact .inl (.rd (Vst.look_own lw) hw)
   ·exact .inr ⟨u,v,.rd (Vst.look_own lw) hw⟩
 | @lay t k s s' r z hr ih=>
  intro x w n0 t0 e fi hwn su ho hk hn h1 h2 h3;cases fi with
  | lay f0 fg ff=>
  cases y:w.stop t with
  | some u=>exact⟨.lay (by omega) fg λz'=>(by rw[y] at z';cases z'),w,.inr ⟨u,t,.clash y⟩⟩
  | none=>
   have sw:=ziL hk y;have ne:zj t≠n0:=λen=>by
    have ho2:zf (s.add t).own n0=some t:=by
     show zf (addT s.own (zj t) t) n0=some t;rw[<-en];refine zar ?_;cases q:zf s.own (zj t) with
     | none=>exact .inl q
     | some v=>have:=ho _ _ q;rw[en,h3] at this;cases this
    have:=hr.noted (m:=n0) su ho2;have h1':zf (s.add t).nt n0=none:=h1;rw[h1',h2] at this;cases this
   obtain⟨fw,w',hw⟩:=ih (w:=w.add t) e (ff z) (by show s.n - 1<=w.n - 1;omega) su (zk8 ho sw) hk (λn v hne e=>zaY (hn n v hne e)) h1 h2 (by
    show zf (addT w.own (zj t) t) n0=none;cases q:zf (addT w.own (zj t) t) n0 with
    | none=>rfl
    | some v=>
     rcases zaQ q with q | ⟨q,_⟩
     ·rw[h3] at q;cases q
     ·exact Jh q.symm ne)
   refine⟨.lay (by omega) fg λ_=>fw,w',?_⟩;rcases hw with hw | ⟨u,v,hw⟩
   ·exact .inl (.lay y hw)
   ·exact .inr ⟨u,v,.lay y hw⟩
def ff (h:Int)(l:List Int):Int:=l.foldl (λh c=>(h * 1234567890123456789+c) % 2305843009213693951) h
theorem zge {h:Int}(h0:0<=h)(h1:h < 2305843009213693951):∀l:List Int,0<=ff h l/\ff h l < 2305843009213693951
 | []=>⟨h0,h1⟩
 | c::r=>zge (h:=(h * 1234567890123456789+c) % 2305843009213693951) (Jt _ (by decide)) (Jo _ (by decide)) r
structure zqh (r t:Int):Prop where
 r0:0 < r
 r1:r < 1000000000000000
 t0: -1000000000000000 < t
 t1:t < 1000000000000000
 ne:t≠0
 dv:(t * 1234567890123456789 - r) % 2305843009213693951=0
structure Two (one other:Int):Prop where
 ex:∃hi lo r t:Int,zqh r t/\one=hi * 1000000000000000+lo - 10 ^ 30/\other=one+t * 1000000000000000 - r/\r<=lo/\lo < 1000000000000000/\0<=hi/\hi < 2000000000000000/\0<=hi+t/\hi+t < 2000000000000000
abbrev Pl:=List (List Th ×Nat)
def put1 (p:List Th ×Nat)(t:Th):Th:=.tup (p.1.take p.2++ [t]++p.1.drop p.2)
def putT (ps:Pl)(t:Th):Th:=ps.foldl (λt p=>put1 p t) t
structure PlOk (ps:Pl):Prop where
 len:ps.length<=4
 each:∀p∈ps,p.1.length<=3/\p.2<=p.1.length/\WfL p.1/\depL p.1<=1/\zbe p.1<=12
def Pg.Run.det {α:Type}{p:Pg α}{s s1 s2:Vst}{r1 r2:Except Er α}(h:Pg.Run p s r1 s1):Pg.Run p s r2 s2->r1=r2/\s1=s2:=by
 induction h with
 | ret=>intro g;cases g;exact⟨rfl,rfl⟩
 | bad=>intro g;cases g;exact⟨rfl,rfl⟩
 | rd z _ ih=>
  intro g;cases g with
  | rd y g=>rw[z] at y;cases y;exact ih g
  | lacks y=>rw[z] at y;cases y
 | lacks z=>
  intro g;cases g with
  | rd y g=>rw[z] at y;cases y
  | lacks y=>exact⟨rfl,rfl⟩
 | lay z _ ih=>
  intro g;cases g with
  | lay y g=>exact ih g
  | clash y=>rw[z] at y;cases y
 | clash z=>
  intro g;cases g with
  | lay y g=>rw[z] at y;cases y
  | clash y=>rw[z] at y;cases y;exact⟨rfl,rfl⟩
theorem look_own {s s':Vst}{n:Int}{t:Th}(h:s.look n=some (t,s')):s'.own=s.own/\s'.kp=s.kp/\zf s.all n=some t/\((zf s.own n=some t/\s'.nt=s.nt)\/(zf s.own n=none/\zf s.kp n=some t/\s'.nt=addT s.nt n t)):=by
 cases z:zf s.own n with
 | some u=>rw[Vst.look_own z] at h;cases h;exact⟨rfl,rfl,Vst.all_own z,.inl ⟨rfl,rfl⟩⟩
 | none=>
  cases y:zf s.kp n with
  | some u=>rw[Vst.look_kp z y] at h;cases h;exact⟨rfl,rfl,by rw[Vst.all_kp z];exact y,.inr ⟨rfl,rfl,rfl⟩⟩
  | none=>rw[Vst.look_no z y] at h;cases h
theorem zci (a:QF)(k:Int)(t:Th)(n:Int):zf (addT a k t) n=(zf a n).or (if k=n then some t else none):=by
 cases z:zf a k with
 | none=>rw[zbR z,zaS];cases zf a n <;> rfl
 | some u=>
  rw[zbQ z];by_cases h:k=n
  ·subst h;rw[z];rfl
  ·rw[if_neg h];cases zf a n <;> rfl
theorem Pg.Run.kp {α:Type}{p:Pg α}{s s':Vst}{r:Except Er α}(h:Pg.Run p s r s'):s'.kp=s.kp/\Sub s.own s'.own:=by
 induction h with
 | ret=>exact⟨rfl,Sub.refl _⟩
 | bad=>exact⟨rfl,Sub.refl _⟩
 | rd z _ ih=>obtain⟨e1,e2,_⟩:=look_own z;rw[e1,e2] at ih;exact ih
 | lacks=>exact⟨rfl,Sub.refl _⟩
 | lay _ _ ih=>exact⟨ih.1,λn t e=>ih.2 n t (zaY e)⟩
 | clash=>exact⟨rfl,Sub.refl _⟩
def Pg.Run.few {α:Type}{p:Pg α}{s s':Vst}{r:Except Er α}(h:Pg.Run p s r s'):p.Fit s->s'.nt.length+s'.n<=s.nt.length+s.n:=by
 induction h with
 | ret=>intro _;exact Jb _
 | bad=>intro _;exact Jb _
 | @rd n k s s1 s' t r z _ ih=>
  intro f;cases f with
  | rd f0 ff=>
  have:=ih (ff _ _ z);have hn:=ze4 z;obtain⟨_,_,_,h | h⟩:=look_own z
  ·rw[h.2] at this;omega
  ·have hl:=zdn s.nt n t;rw[h.2.2] at this;omega
 | lacks=>intro _;exact Jb _
 | @lay t k s s' r z _ ih=>
  intro f;cases f with
  | lay f0 fg ff=>
  have:=ih (ff z);have e:(s.add t).nt.length+(s.add t).n=s.nt.length+(s.n - 1):=rfl;omega
 | clash=>intro _;exact Jb _
def Pg.twin {α:Type}{p:Pg α}{s s':Vst}{r:Except Er α}(h:Pg.Run p s r s'):∀{x:α} {w:Vst} {n0:Int} {t' nw:Th},r=.ok x->p.Fit s->s.n<=w.n->w.own=s.own->(∀n,n≠n0->zf w.kp n=zf s.kp n)->zf s.kp n0=none->zf w.kp n0=some t'->zf s.own n0=none->zf s'.own n0=some nw->nw≠t'->
  p.Fit w/\∃w' u t,Pg.Run p w (.error (.clash u t)) w':=by
 induction h with
 | ret=>intro x w n0 t' nw e _ _ _ _ _ _ h1 h2;rw[h1] at h2;cases h2
 | bad=>intro x w n0 t' nw e;cases e
 | lacks=>intro x w n0 t' nw e;cases e
 | clash=>intro x w n0 t' nw e;cases e
 | @rd n k s s1 s' t r z hr ih=>
  intro x w n0 t' nw e fi hn ho hk k0 k1 o0 o1 ne;have sn:=ze4 z;cases fi with
  | rd f0 ff=>
  obtain⟨e1,e2,al,hl⟩:=look_own z;have lw:∃w1,w.look n=some (t,w1)/\w1.own=w.own/\w1.kp=w.kp/\w1.n=w.n - 1:=by
   rcases hl with ⟨hl,_⟩ | ⟨h1,h2,_⟩
   ·exact⟨_,Vst.look_own (by rw[ho];exact hl),rfl,rfl,rfl⟩
   ·have nn:n≠n0:=λy=>by rw[y,k0] at h2;cases h2
    exact⟨_,Vst.look_kp (by rw[ho];exact h1) (by rw[hk n nn];exact h2),rfl,rfl,rfl⟩
  obtain⟨w1,lw,q1,q2,q3⟩:=lw;obtain⟨fw,w',u,v,hw⟩:=ih (w:=w1) e (ff _ _ z) (by omega) (by rw[q1,e1];exact ho) (by rw[q2,e2];exact hk) (by rw[e2];exact k0) (by rw[q2];exact k1) (by rw[e1];exact o0) o1 ne;exact⟨.rd (by omega) λt2 w2 z2=>(by rw[lw] at z2;cases z2;exact fw),w',u,v,.rd lw hw⟩
 | @lay t k s s' r z hr ih=>
  intro x w n0 t' nw e fi hn ho hk k0 k1 o0 o1 ne;cases fi with
  | lay f0 fg ff=>
  by_cases h0:zj t=n0
  ·have e1:zf (s.add t).own n0=some t:=by show zf (addT s.own (zj t) t) n0=some t;rw[zci,o0,if_pos h0];rfl
   have e2:=hr.kp.2 _ _ e1;rw[o1] at e2;have e3:nw=t:=Option.some.inj e2;rw[e3] at ne;have st:w.stop t=some t':=zdE (by rw[h0,Vst.all_kp (by rw[ho];exact o0)];exact k1) λy=>ne y.symm;exact⟨.lay (by omega) fg λy=>(by rw[st] at y;cases y),w,t',t,.clash st⟩
  ·have st:w.stop t=none:=by refine zeb ?_;have:=zcK z;unfold Vst.all at this ⊢;rw[zaH] at this ⊢;rw[ho,hk _ h0];exact this
   obtain⟨fw,w',u,v,hw⟩:=ih (w:=w.add t) e (ff z) (by show s.n - 1<=w.n - 1;omega) (by show addT w.own _ _=addT s.own _ _;rw[ho]) hk k0 k1 (by
    show zf (addT s.own (zj t) t) n0=none;rw[zci,o0,if_neg h0];rfl) o1 ne
   exact⟨.lay (by omega) fg λ_=>fw,w',u,v,.lay st hw⟩
def Pg.void {α:Type}{p:Pg α}{s s':Vst}{r:Except Er α}(h:Pg.Run p s r s'):∀{x:α} {w:Vst},r=.ok x->p.Fit s->s.n<=w.n->w.own=s.own->w.kp=[]->s.nt=[]->p.Fit w/\∃w',(s'.nt=[]/\Pg.Run p w (.ok x) w')\/(s'.nt≠ []/\Pg.Run p w (.error .lacks) w'):=by
 induction h with
 | ret=>intro x w e _ _ _ _ h;cases e;exact⟨.ret,w,.inl ⟨h,.ret⟩⟩
 | bad=>intro x w e;cases e
 | lacks=>intro x w e;cases e
 | clash=>intro x w e;cases e
 | @rd n k s s1 s' t r z hr ih=>
  intro x w e fi hn ho hk h0;have sn:=ze4 z;cases fi with
  | rd f0 ff=>
  obtain⟨e1,e2,al,hl⟩:=look_own z;rcases hl with ⟨hl,hnt⟩ | ⟨h1,h2,hnt⟩
  ·have lw:w.look n=some (t,{w with n:=w.n - 1}):=Vst.look_own (by rw[ho];exact hl);obtain⟨fw,w',hw⟩:=ih (w:={w with n:=w.n - 1}) e (ff _ _ z) (by show s1.n<=w.n - 1;omega) (by rw[e1];exact ho) hk (by rw[hnt];exact h0);refine⟨.rd (by omega) λt2 w2 z2=>(by rw[lw] at z2;cases z2;exact fw),w',?_⟩;rcases hw with ⟨a,b⟩ | ⟨a,b⟩
   ·exact .inl ⟨a,.rd lw b⟩
   ·exact .inr ⟨a,.rd lw b⟩
  ·have lw:w.look n=none:=Vst.look_no (by rw[ho];exact h1) (by rw[hk];rfl);refine⟨.rd (by omega) λt2 w2 z2=>(by rw[lw] at z2;cases z2),w,.inr ⟨λy=>?_,.lacks lw⟩⟩;have:zf s1.nt n=some t:=by rw[hnt,h0];exact zar (.inl rfl)
   have:=hr.nt _ _ this;rw[y] at this;cases this
 | @lay t k s s' r z hr ih=>
  intro x w e fi hn ho hk h0;cases fi with
  | lay f0 fg ff=>
  have st:w.stop t=none:=by
   refine zeb ?_;have:=zcK z;unfold Vst.all at this ⊢;rw[zaH] at this ⊢;rw[ho,hk];cases y:zf s.own (zj t) with
   | none=>exact .inl rfl
   | some v=>rw[y] at this;exact this
  obtain⟨fw,w',hw⟩:=ih (w:=w.add t) e (ff z) (by show s.n - 1<=w.n - 1;omega) (by show addT w.own _ _=addT s.own _ _;rw[ho]) hk h0
  refine⟨.lay (by omega) fg λ_=>fw,w',?_⟩;rcases hw with ⟨a,b⟩ | ⟨a,b⟩
  ·exact .inl ⟨a,.lay st b⟩
  ·exact .inr ⟨a,.lay st b⟩
def Pg.full {α:Type}{p:Pg α}{s s':Vst}{r:Except Er α}(h:Pg.Run p s r s'):∀{x:α} {w:Vst},r=.ok x->p.Fit s->s.n<=w.n->w.kp=[]->(∀n,zf w.own n=zf s.all n)->p.Fit w/\∃w',Pg.Run p w (.ok x) w'/\(∀n,zf w'.own n=zf s'.all n)/\(w.n=s.n->w'.n=s'.n):=by
 induction h with
 | ret=>intro x w e _ _ _ h;cases e;exact⟨.ret,w,.ret,h,id⟩
 | bad=>intro x w e;cases e
 | lacks=>intro x w e;cases e
 | clash=>intro x w e;cases e
 | @rd n k s s1 s' t r z hr ih=>
  intro x w e fi hn hk h0;have sn:=ze4 z;cases fi with
  | rd f0 ff=>
  obtain⟨e1,e2,al,hl⟩:=look_own z;have lw:w.look n=some (t,{w with n:=w.n - 1}):=Vst.look_own (by rw[h0];exact al);obtain⟨fw,w',hw,ha,hb⟩:=ih (w:={w with n:=w.n - 1}) e (ff _ _ z) (by show s1.n<=w.n - 1;omega) hk (λm=>by unfold Vst.all;rw[e1,e2];exact h0 m);exact⟨.rd (by omega) λt2 w2 z2=>(by rw[lw] at z2;cases z2;exact fw),w',.rd lw hw,ha,λy=>hb (by show w.n - 1=s1.n;omega)⟩
 | @lay t k s s' r z hr ih=>
  intro x w e fi hn hk h0;cases fi with
  | lay f0 fg ff=>
  have sz:=zcK z;have st:w.stop t=none:=by refine zeb ?_;show zf (w.own++w.kp) _=none\/zf (w.own++w.kp) _=some t;rw[hk,List.append_nil,h0];exact sz
  obtain⟨fw,w',hw,ha,hb⟩:=ih (w:=w.add t) e (ff z) (by show s.n - 1<=w.n - 1;omega) hk (λm=>by
   show zf (addT w.own (zj t) t) m=zf (addT s.own (zj t) t++s.kp) m;unfold Vst.all at h0 sz;rw[zaH,zci,zci,h0,zaH];rw[zaH] at sz;by_cases hm:zj t=m
   ·subst hm;rw[if_pos rfl];cases y:zf s.own (zj t) with
    | some v=>rfl
    | none=>
     rw[y] at sz;rcases sz with sz | sz
     ·have sz':zf s.kp (zj t)=none:=sz;rw[sz'];rfl
     ·have sz':zf s.kp (zj t)=some t:=sz;rw[sz']
   ·rw[if_neg hm];cases zf s.own m with
    | some v=>rfl
    | none=>cases zf s.kp m <;> rfl)
  exact⟨.lay (by omega) fg λ_=>fw,w',.lay st hw,ha,λy=>hb (by show w.n - 1=s.n - 1;rw[y])⟩
abbrev MM:Int:=1234567890123456789
abbrev PP:Int:=2305843009213693951
def valC:List Int->Int
 | []=>0
 | c::r=>c * MM ^ r.length+valC r
theorem zjG:∀(l:List Int) (x:Int),∃m,ff x l=x * MM ^ l.length+valC l+PP * m
 | [],x=>⟨0,by show x=x * MM ^ 0+0+PP * 0;rw[Int.pow_zero];omega⟩
 | c::r,x=>by
  obtain⟨m,h⟩:=zjG r ((x * MM+c) % PP);refine⟨m - ((x * MM+c) / PP) * MM ^ r.length,?_⟩;show ff ((x * MM+c) % PP) r=x * MM ^ (r.length+1)+(c * MM ^ r.length+valC r)+_;have e:(x * MM+c) % PP=(x * MM+c) - PP * ((x * MM+c) / PP):=by have:=Int.mul_ediv_add_emod (x * MM+c) PP;omega
  have e2:∀a b c d k:Int,(a * k+c - b * d) * k ^ r.length=a * k ^ (r.length+1)+c * k ^ r.length - b * (d * k ^ r.length):=λa b c d k=>by rw[Int.sub_mul,Int.add_mul,Int.pow_succ,Int.mul_assoc,Int.mul_assoc,Int.mul_comm k]
  rw[h,e,e2,Int.mul_sub];omega
theorem zgJ:∀a b:List Int,valC (a++b)=valC a * MM ^ b.length+valC b
 | [],b=>by show valC b=0 * _+_;rw[Int.zero_mul,Int.zero_add]
 | c::r,b=>by show c * MM ^ (r++b).length+valC (r++b)=(c * MM ^ r.length+valC r) * _+_;rw[zgJ r b,List.length_append,Int.pow_add,Int.add_mul,Int.mul_assoc];omega
def zbq (a b:List Int):Prop:=a.length=b.length/\∃m,valC a - valC b=PP * m
def zbq.refl (a:List Int):zbq a a:=⟨rfl,0,by omega⟩
def zbq.app {a b c d:List Int}(h:zbq a b)(g:zbq c d):zbq (a++c) (b++d):=by obtain⟨h1,m,h2⟩:=h;obtain⟨g1,n,g2⟩:=g;refine⟨by rw[List.length_append,List.length_append,h1,g1],m * MM ^ d.length+n,?_⟩;rw[zgJ,zgJ,g1,Int.mul_add,<-Int.mul_assoc,<-h2,<-g2,Int.sub_mul];omega
def zbq.seal {t u:Th}(h:zbq (zO t) (zO u)):zj t=zj u:=by
 obtain⟨hl,m,hm⟩:=h;show ff 7 (zO t)+1=ff 7 (zO u)+1;obtain⟨a,ha⟩:=zjG (zO t) 7;obtain⟨b,hb⟩:=zjG (zO u) 7;have r1:=zge (h:=7) (by decide) (by decide) (zO t);have r2:=zge (h:=7) (by decide) (by decide) (zO u);rw[hl] at ha;generalize MM ^ (zO u).length=k at ha hb;generalize ff 7 (zO t)=x at ha r1 ⊢;generalize ff 7 (zO u)=y at hb r2 ⊢;generalize valC (zO t)=p at ha hm;generalize valC (zO u)=q at hb hm;have:x - y=PP * (m+a - b):=by rw[ha,hb,Int.mul_sub,Int.mul_add];omega
 have e1:(2305843009213693951:Int) * (m+a - b)=x - y:=this.symm;generalize m+a - b=z at e1;obtain⟨h1,h2⟩:=r1;obtain⟨h3,h4⟩:=r2;omega
abbrev NA:Int:=251530379464423
abbrev NB:Int:= -1285000000000000000
def zkz:zbq (zO (.int NA)) (zO (.int NB))/\zbq (zO (.int NB)) (zO (.int NA)):=⟨⟨by decide+kernel,(valC (zO (.int NA)) - valC (zO (.int NB))) / PP,by decide+kernel⟩,⟨by decide+kernel,(valC (zO (.int NB)) - valC (zO (.int NA))) / PP,by decide+kernel⟩⟩
def zgj (n:Int):Int:=if n=NA then NB else if n=NB then NA else n
mutual
def zaj:Th->Th
 | .int n=>.int (zgj n)
 | .tup ts=>.tup (za7 ts)
 | .non=>.non
 | .str x=>.str x
def za7:List Th->List Th
 | []=>[]
 | t::r=>zaj t::za7 r
end
theorem ze7:∀ts:List Th,(za7 ts).length=ts.length
 | []=>rfl
 | t::r=>by show(za7 r).length+1=r.length+1;rw[ze7 r]
theorem zgF:∀(ts:List Th) (t:Th),za7 (ts++ [t])=za7 ts++ [zaj t]
 | [],t=>rfl
 | u::r,t=>by show zaj u::za7 (r++ [t])=zaj u::(za7 r++ [zaj t]);rw[zgF r t]
mutual
theorem zhl:∀t:Th,zbq (zO (zaj t)) (zO t)
 | .non=>zbq.refl _
 | .str x=>zbq.refl _
 | .int n=>by
  show zbq (zO (.int (zgj n))) _;unfold zgj;by_cases h:n=NA
  ·rw[if_pos h,h];exact zkz.2
  ·rw[if_neg h];by_cases g:n=NB
   ·rw[if_pos g,g];exact zkz.1
   ·rw[if_neg g];exact zbq.refl _
 | .tup ts=>by show zbq ([4,((za7 ts).length:Int)]++zan (za7 ts)) ([4,(ts.length:Int)]++zan ts);rw[ze7];exact(zbq.refl _).app (zgz ts)
theorem zgz:∀ts:List Th,zbq (zan (za7 ts)) (zan ts)
 | []=>zbq.refl _
 | t::r=>(zhl t).app (zgz r)
end
mutual
theorem zhN:∀t:Th,Wf t->Wf (zaj t)/\dep (zaj t)=dep t/\nodes (zaj t)=nodes t
 | .non,h=>⟨h,rfl,rfl⟩
 | .str x,h=>⟨h,rfl,rfl⟩
 | .int n,h=>by
  refine⟨?_,rfl,rfl⟩;show Wf (.int (zgj n));unfold zgj;split
  ·exact⟨by decide,by decide⟩
  ·split
   ·exact⟨by decide,by decide⟩
   ·exact h
 | .tup ts,h=>by
  obtain⟨h1,h2,h3⟩:=zit ts h.2;refine⟨⟨by rw[ze7];exact h.1,h1⟩,?_,?_⟩
  ·show depL (za7 ts)+1=depL ts+1;rw[h2]
  ·show 1+zbe (za7 ts)=1+zbe ts;rw[h3]
theorem zit:∀ts:List Th,WfL ts->WfL (za7 ts)/\depL (za7 ts)=depL ts/\zbe (za7 ts)=zbe ts
 | [],h=>⟨h,rfl,rfl⟩
 | t::r,h=>by
  obtain⟨a1,a2,a3⟩:=zhN t h.1;obtain⟨b1,b2,b3⟩:=zit r h.2;refine⟨⟨a1,b1⟩,?_,?_⟩
  ·show max (dep (zaj t)) (depL (za7 r))=max (dep t) (depL r);rw[a2,b2]
  ·show nodes (zaj t)+zbe (za7 r)=nodes t+zbe r;rw[a3,b3]
end
def Good.twin {t:Th}(g:Good t):Good (zaj t):=by obtain⟨a,b,c⟩:=zhN t g.wf;exact⟨a,by rw[b];exact g.dp,by rw[c];exact g.nd⟩
theorem zhb (t:Th):zj (zaj t)=zj t:=(zhl t).seal
end Pv
namespace Pv
open PySem L2 PySem.NumText
abbrev zeU:Stmt:=top 15
abbrev zbD:Stmt:=top 16
abbrev zaU:Stmt:=top 17
abbrev zaN:Stmt:=top 18
def zjh:zr ["thing"] ["thing"] (ze zeU):=L2.fsc (by decide+kernel)
def zeq:zr ["thing","deep"] ["thing","deep"] (ze zbD):=L2.fsc (by decide+kernel)
def zcx:zr ["parts","deep","part"] ["parts","deep"] (ze zaU):=L2.fsc (by decide+kernel)
def zbx:zr ["text","sign"] ["text"] (ze zaN):=L2.fsc (by decide+kernel)
theorem lt1 (c k:Nat):decide ([c] < [k])=decide (c < k):=by
 by_cases h:c < k
 ·rw[decide_eq_true h];exact decide_eq_true (by simp[List.cons_lt_cons_iff,h])
 ·rw[Je h];exact Je (by simp[List.cons_lt_cons_iff];omega)
def zkM:Sp:=λvs H Q _=>∃x:Str,vs=[.str x]/\(∀c∈x.cps.toList,Sign c)/\Q (.bl true) H
def spWT (n:Nat):Sp:=λvs H Q _=>∃(t:Th) (v:V) (d:Nat),vs=[v,.int (d:Int)]/\Rep H t v/\Wf t/\dep t<=d/\dep t < n/\Q (.bl true) H
def spTW (n:Nat):Sp:=λvs H Q _=>∃(ts:List Th) (v:V) (d:Nat),vs=[v,.int (d:Int)]/\Rep H (.tup ts) v/\Wf (.tup ts)/\depL ts+1<=d/\depL ts < n/\Q (.bl true) H
def znx:Sp:=λvs H Q _=>∃(t:Th) (v:V),vs=[v]/\Rep H t v/\Wf t/\dep t<=5/\Q (.bl true) H
section
variable {P:Program}{w:World}{K:QA}{mg:QB}{base:Heap}{t1 t2 t3 t4 t5:Tok}
def zm9 (D:Dfn K mg "has_signs_of_things" zaN ["text"]) (m_ord:mg "ord" =none) (zcS:mg "PERCENT" =some (.int 37 t5)):Fn P w K mg base "has_signs_of_things" 1 ["text"] zkM:=by
 refine D.ok (k:=0) zbx (λvs H Q E h=>?_) (λf cdv A outer s H vs Q E hr h=>?_)
 ·obtain⟨x,rfl,_⟩:=h;rfl
 obtain⟨x,rfl,hx,q⟩:=h;refine⟨_,(zb (za1 PassesOwn.never rfl (zn5 (pv 0)) (zZ (i:=1) zbx.nd rfl (Or.inl rfl))
 (zd (zN (PW.pt (zfu (zc1 (zmE zhu zhu zam (pv 1) zam)) (zdp (zB zb0 (zF (zis) (by rfl) m_ord (by rfl) (za (pv 1) zc)) (zx (v:=.int 37) (by rfl) zcS ⟨_,rfl⟩) (zA _)))))
 (zd (zq zb2))
 zy)))
 (zd (zq zb2))),?_⟩
 refine⟨_,rfl,x,rfl,?_⟩;refine zkH (z:=x) (λi σ H'=>∃k,σ=[some (.str x),k]/\H'=H) ⟨_,rfl,rfl⟩ ?_ ?_
 ·rintro i c σ H' hc ⟨k,rfl,rfl⟩;have hs:Sign c:=hx c (by
   have:=(Array.getElem?_toList (xs:=x.cps) (i:=i)).trans hc;exact List.mem_of_getElem? this)
  obtain⟨h1,h2,h3⟩:=hs;have e1:(!decide ((⟨#[c]⟩:Str).cps.toList < (Str.ofString " ").cps.toList))=true:=by show(!decide ([c] < [32]))=true;rw[lt1,Je (by omega)];rfl
  have e2:(!decide ((Str.ofString "~").cps.toList < (⟨#[c]⟩:Str).cps.toList))=true:=by show(!decide ([126] < [c]))=true;rw[lt1,Je (by omega)];rfl
  refine⟨_,rfl,_,_,rfl,rfl,_,rfl,ifT e1 ?_⟩;refine⟨_,_,rfl,rfl,_,rfl,?_⟩;refine ifF (by rw[e2];rfl) ?_;refine⟨_,rfl,_,rfl,rfl,rfl,_,rfl,?_⟩;rw[zcO];refine ifF (Je ?_) ⟨_,rfl,rfl⟩;show¬((c:Int)=37);omega
 ·rintro σ H' ⟨k,rfl,rfl⟩;exact q
def zly {n:Nat}(D:Dfn K mg "is_tuple_within" zaU ["parts","deep"]) (zbu:Fn P w K mg base "is_thing_within" (2 * n+2) ["thing","deep"] (spWT n)) (zR:mg "len" =none) (zas:mg "MOST_PARTS" =some (.int 40 t2)):Fn P w K mg base "is_tuple_within" (2 * n+3) ["parts","deep"] (spTW n):=by
 refine D.ok (k:=2 * n+2) zcx (λvs H Q E h=>?_) (λf cdv A outer s H vs Q E hr h=>?_)
 ·obtain⟨ts,v,d,rfl,_⟩:=h;rfl
 obtain⟨ts,v,d,rfl,rv,hw,hd,hdn,q⟩:=h;cases rv with
 | @tup a xs _ e l h=>
 have h40:ts.length<=40:=hw.1;obtain⟨d',rfl⟩:∃d',d=d'+1:=⟨d - 1,by omega⟩;have ed:((d'+1:Nat):Int) - 1=(d':Int):=by omega
 refine⟨_,(zb (zN (PW.pt (zfu (zB zb0 (pv 1) zo (zA _)) (zdp (zB zm0 (zF (zT) (by rfl) zR (by rfl) (za (pv 0) zc)) (zx (v:=.int 40) (by rfl) zas ⟨_,rfl⟩) (zA _)))))
 (zd (zq zb2))
 zy)
 (zb (za1 PassesOwn.never rfl (zhR (pv 0)) (zZ (i:=2) zcx.nd rfl (Or.inl rfl))
 (zd (zN (zc1 (zah (zK zbu hr (by omega) (by rfl) (za (pv 2) (za (zG zeS (pv 1) zo) zc)))))
 (zd (zq zb2))
 zy)))
 (zd (zq zb2)))),?_⟩
 refine⟨_,rfl,rfl,_,rfl,?_⟩;rw[zcO];refine ifF (Je (by omega)) ?_;refine⟨_,rfl,a,xs,rfl,.inr (SqT.of e),_,_,rfl,rfl,_,rfl,ifF (Je (by omega)) ?_⟩;refine⟨_,rfl,a,rfl,⟨_,SqT.of e⟩,?_⟩;refine zkY (xs:=xs) (λi σ H'=>∃kk,σ=[some (.ref a),some (.int ((d'+1:Nat):Int)),kk]/\H'=H) ⟨_,rfl,rfl⟩ ?_ ?_ ?_
 ·rintro i σ H' hi ⟨kk,rfl,rfl⟩;exact SqT.of e
 ·rintro i x σ H' hx ⟨kk,rfl,rfl⟩;have hil:i < ts.length:=by rw[<-l];exact(List.getElem?_eq_some_iff.mp hx).1
  have ht:ts[i]? =some ts[i]:=List.getElem?_eq_getElem hil;have hdi:=zck ht;refine⟨_,rfl,_,rfl,_,_,rfl,rfl,ts[i],x,d',?_,h i x _ hx ht,hw.2.get ht,by omega,by omega,?_⟩
  ·show[x,V.int (((d'+1:Nat):Int) - 1)]=_;rw[ed]
  ·exact⟨_,rfl,ifF rfl ⟨some x,rfl,rfl⟩⟩
 ·rintro σ H' ⟨kk,rfl,rfl⟩;exact q
theorem zgR (D:Dfn K mg "is_thing_within" zbD ["thing","deep"]) (Dt:Dfn K mg "is_tuple_within" zaU ["parts","deep"]) (zbG:Fn P w K mg base "is_whole" 1 ["value"] zkj) (zby:Fn P w K mg base "has_signs_of_things" 1 ["text"] zkM)
  (zt:mg "isinstance" =none) (zay:mg "tuple" =none) (zdv:mg "str" =none) (zbr:mg "int" =none) (zR:mg "len" =none) (zll:mg "abs" =none) (zaZ:mg "MOST_SIGNS" =some (.int 60 t1)) (zas:mg "MOST_PARTS" =some (.int 40 t2)):
  ∀n:Nat,Fn P w K mg base "is_thing_within" (2 * n+2) ["thing","deep"] (spWT n)
 | 0=>D.never λvs H Q E h=>by obtain⟨t,v,d,_,_,_,_,h1,_⟩:=h;omega
 | n+1=>by
  have zeI:=zly Dt (zgR D Dt zbG zby zt zay zdv zbr zR zll zaZ zas n) zR zas;refine D.ok (k:=2 * n+3) zeq (λvs H Q E h=>?_) (λf cdv A outer s H vs Q E hr h=>?_)
  ·obtain⟨t,v,d,rfl,_⟩:=h;rfl
  obtain⟨t,v,d,rfl,rv,hw,hd,hdn,q⟩:=h;refine⟨_,(zb (zN (zah (zF (zW) (by rfl) zt (by rfl) (za (pv 0) (za (zaV (v:=.ty "tuple") (by rfl) zay (by rfl) rfl) zc))))
 (zd (zq (zK zeI hr (by omega) (by rfl) (za (pv 0) (za (pv 1) zc)))))
 zy)
 (zb (zN (zah (zF (zW) (by rfl) zt (by rfl) (za (pv 0) (za (zaV (v:=.ty "str") (by rfl) zdv (by rfl) rfl) zc))))
 (zd (zq (zdW (zaF zkk (zF (zb6) (by rfl) zR (by rfl) (za (pv 0) zc)) (zx (v:=.int 60) (by rfl) zaZ ⟨_,rfl⟩) (zA _)) (zdV (zK zby hr (by omega) (by rfl) (za (pv 0) zc))))))
 zy)
 (zb (zN (zah (zK zbG hr (by omega) (by rfl) (za (pv 0) zc)))
 (zd (zq (zaF zkk (zF (zmJ) (by rfl) zll (by rfl) (za (pv 0) zc)) (zG zgw zo zo) (zA _))))
 zy)
 (zd (zq (zaF zd3 (pv 0) zch (zA _))))))),?_⟩
  cases rv with
  | non=>refine⟨_,rfl,_,_,_,_,rfl,.non,rfl,_,rfl,ifF rfl ?_⟩;refine⟨_,rfl,_,_,_,_,rfl,.non,rfl,_,rfl,ifF rfl ?_⟩;refine⟨_,rfl,.inr ⟨rfl,_,rfl,ifF rfl ?_⟩⟩;exact⟨_,rfl,rfl,q⟩
  | int i=>
   have h0:=hw.1;have h1:=hw.2;refine⟨_,rfl,_,_,_,_,rfl,.int i,rfl,_,rfl,ifF rfl ?_⟩;refine⟨_,rfl,_,_,_,_,rfl,.int i,rfl,_,rfl,ifF rfl ?_⟩;refine⟨_,rfl,.inl ⟨i,rfl,_,rfl,ifT rfl ?_⟩⟩;refine⟨_,rfl,i,rfl,_,_,rfl,rfl,⟨by decide,by decide,by decide⟩,_,_,rfl,rfl,?_⟩;have e:decide ((if i < 0 then -i else i)<=(10:Int) ^ (30:Int).toNat)=true:=decide_eq_true (by
    show(if i < 0 then -i else i)<=(10:Int) ^ 30;split <;> omega)
   show Q (.bl (decide ((if i < 0 then -i else i)<=(10:Int) ^ (30:Int).toNat))) H;rw[e];exact q
  | str x=>have hl:x.length<=60:=hw.1;refine⟨_,rfl,_,_,_,_,rfl,.str x,rfl,_,rfl,ifF rfl ?_⟩;refine⟨_,rfl,_,_,_,_,rfl,.str x,rfl,_,rfl,ifT rfl ?_⟩;refine⟨_,rfl,x,rfl,szl (by omega),_,_,rfl,rfl,_,rfl,ifT (decide_eq_true (by omega)) ?_⟩;exact⟨_,rfl,x,rfl,hw.2,q⟩
  | @tup a xs ts e l h=>refine⟨_,rfl,_,_,_,_,rfl,.tup e,rfl,_,rfl,ifT rfl ?_⟩;have hd':depL ts+1<=d:=hd;have hdn':depL ts+1 < n+1:=hdn;exact⟨_,rfl,_,rfl,ts,_,d,rfl,.tup e l h,hw,hd',by omega,q⟩
def zp9 (D:Dfn K mg "is_thing" zeU ["thing"]) (zbu:Fn P w K mg base "is_thing_within" 14 ["thing","deep"] (spWT 6)) (zbX:mg "MOST_DEEP" =some (.int 5 t3)):Fn P w K mg base "is_thing" 15 ["thing"] znx:=by
 refine D.ok (k:=14) zjh (λvs H Q E h=>?_) (λf cdv A outer s H vs Q E hr h=>?_)
 ·obtain⟨t,v,rfl,_⟩:=h;rfl
 obtain⟨t,v,rfl,rv,hw,hd,q⟩:=h;exact⟨_,(zd (zq (zK zbu hr (by omega) (by rfl) (za (pv 0) (za (zx (v:=.int 5) (by rfl) zbX ⟨_,rfl⟩) zc))))),⟨_,rfl,t,v,5,rfl,rv,hw,hd,by omega,q⟩⟩
end
end Pv
namespace Pv
open PySem L2
abbrev zaK:Stmt:=inClass (top 27) 0
def zcd:zr ["self","paper","thing"] ["self","paper"] (ze zaK):=L2.fsc (by decide+kernel)
structure G5 (t:Th):Prop where
 wf:Wf t
 dp:dep t<=5
 nd:nodes t<=80
def G5.good {t:Th}(g:G5 t):Good t:=⟨g.wf,Jk g.dp (by decide),g.nd⟩
def zJ (ts:List Th):List (Int ×Th):=ts.foldl (λcs t=>addT cs (zj t) t) []
theorem zaD {ts:List Th}{i:Nat}(h:i < ts.length):zJ (ts.take (i+1))=addT (zJ (ts.take i)) (zj ts[i]) ts[i]:=by
 unfold zJ;rw[List.take_add_one,List.getElem?_eq_getElem h,List.foldl_append]
 rfl
theorem zbT:∀{ts:List Th} {i:Nat} {n:Int} {u:Th},zf (zJ (ts.take i)) n=some u->u∈ts/\zj u=n
 | ts,0,n,u,h=>by cases h
 | ts,i+1,n,u,h=>by
  by_cases hi:i < ts.length
  ·rw[zaD hi] at h;rcases zaQ h with h | ⟨rfl,rfl⟩
   ·exact zbT h
   ·exact⟨Jm hi,rfl⟩
  ·rw[List.take_of_length_le (by omega),<-List.take_of_length_le (i:=i) (show ts.length<=i by omega)] at h;exact zbT h
theorem zhM {ts:List Th}(g:∀t∈ts,G5 t):∀i,i<=ts.length->GoodC (zJ (ts.take i))
 | 0,_=>GoodC.nil
 | i+1,h=>by rw[zaD (show i < ts.length by omega)];exact(zhM g i (by omega)).add (g _ (Jm (by omega))).good rfl
theorem zbW (ts:List Th):∀i,i<=ts.length->(zJ (ts.take i)).length<=i
 | 0,_=>Jb _
 | i+1,h=>by rw[zaD (show i < ts.length by omega)];have:=zdn (zJ (ts.take i)) (zj ts[i]) ts[i];have:=zbW ts i (by omega);omega
def zfm (ts:List Th):Prop:=∀t∈ts,∀u∈ts,zj t=zj u->t=u
def ClS (CC:Addr)(H:Hp)(E:XK):Prop:=∀(t1 t2:Th) (v1 v2:V) (H':Hp) (x:Addr),Same H H'->Rep H' t1 v1->Rep H' t2 v2->Good t1->Good t2->t1≠t2->zj t1=zj t2->H' x=some (xdO x [("one",v1),("other",v2)])->E (.ref CC) (some x) H'
theorem Cl.s {CC:Addr}{H:Hp}{E:XK}(h:Cl CC E):ClS CC H E:=λt1 t2 v1 v2 H' x _=>h t1 t2 v1 v2 H' x
def zh8 (C CC:Addr):Sp:=λvs H Q E=>∃(a d:Addr) (cs:QF) (t:Th) (v:V),vs=[.ref a,v]/\VS H C a d cs/\cs.length<=1000000/\Rep H t v/\Good t/\(¬Fits cs (zj t) t->ClS CC H E)/\
 ∀H',Fr1 d H H'->Fits cs (zj t) t->VS H' C a d (addT cs (zj t) t)->Q (.int (zj t)) H'
def zkQ {P:Program}{w:World}{K:QA}{mg:QB}{base:Heap}{C CC:Addr}(M:Mt P w K mg base (CX1 P w) C "lay" 14 ["self","thing"] (zmD C CC)):Mt P w K mg base (CX1 P w) C "lay" 14 ["self","thing"] (zh8 C CC):=Mt.imp M λvs H Q E h=>by
 obtain⟨a,d,cs,t,v,rfl,vs,hl,rt,gt,cl,q⟩:=h;obtain⟨kv,vo,dr⟩:=vs.vo;refine⟨a,d,kv,t,v,rfl,vo,dr.laidOk vs.gc.gd,by rw[dr.len];exact hl,rt,gt,λH' s alike=>?_,λt1 v1 H' s e1 r1 g1 se ne H2 x s2 ex=>?_⟩
 ·have ft:Fits cs (zj t) t:=by
   cases z:zf cs (zj t) with
   | none=>exact .inl z
   | some u=>obtain⟨y,ey,ry⟩:=dr.some z;rw[alike u y ey ry] at z;exact .inr z
  have ed':=s _ _ vo.di;have tk:Tups H (upd H' d (.dK (putK kv (.inl (zj t)) v))):=(Same.tups s).trans (Tups.upd λxs z=>by rw[ed'] at z;cases z);have fr:Fr1 d H (upd H' d (.dK (putK kv (.inl (zj t)) v))):=λb o n e=>by rw[zk n];exact s b o e
  obtain⟨⟨dx,fs,eo,fl⟩,ed⟩:=id vo;exact q _ fr ft ⟨⟨_,⟨⟨dx,fs,fr _ _ (za4 eo ed (by intro z;cases z)) eo,fl⟩,zg⟩,(dr.keep tk).add (rt.keep tk) ft vs.gc.nd⟩,vs.gc.add gt rfl⟩
 ·refine cl (λft=>ne ?_) t1 t v1 v H2 x (λb o e=>s2 b o (s b o e)) (r1.keep (Same.tups s2)) (rt.keep ((Same.tups s).trans (Same.tups s2))) g1 gt ne se ex;obtain⟨t',e',r'⟩:=dr.back e1;rcases ft with z | z
  ·rw[z] at e';cases e'
  ·rw[z] at e';cases e';exact Rep.uniq r1 (r'.keep (Same.tups s))
def Held (cs:QF)(ts:List Th):Prop:=∀t∈ts,zf cs (zj t)=some t
def zcW {ts:List Th}(h:zfm ts){i:Nat}(hi:i < ts.length):zf (zJ (ts.take i)) (zj ts[i])=none\/zf (zJ (ts.take i)) (zj ts[i])=some ts[i]:=by
 cases e:zf (zJ (ts.take i)) (zj ts[i]) with
 | none=>exact .inl rfl
 | some u=>obtain⟨hu,es⟩:=zbT e;rw[h u hu _ (Jm hi) es];exact .inr rfl
def spWI (W CC:Addr):Sp:=λvs H Q E=>∃(a pp dx:Addr) (pvs:QQ) (ts:List Th),vs=[.ref a,.ref pp]/\H a=some (.ins W dx [])/\H pp=some (.lst pvs)/\RepL H ts pvs/\ts.length<=5000/\(∀t∈ts,G5 t)/\(¬zfm ts->∀H',(∀b o,b≠a->H b=some o->H' b=some o)->ClS CC H' E)/\
 ∀(d:Addr) (H':Hp),H d=none->(∀b o,b≠a->H b=some o->H' b=some o)->VS H' W a d (zJ ts)->Held (zJ ts) ts->Q .non H'
section
variable {P:Program}{w:World}{K:QA}{mg:QB}{base:Heap}{W CC CB:Addr}{x:Str}
def zrL (D:Mkd K mg x W "Witness.__init__" zaK ["self","paper"]) (zbH:Kfn P w K mg base "Vault" "__init__" 1 ["self"] (zcv W)) (zd7:Fn P w K mg base "is_thing" 15 ["thing"] znx) (zcm:Mt P w K mg base (CX1 P w) W "lay" 14 ["self","thing"] (zh8 W CC)) (zcl:XP K mg "BadThing" CB) (c_W:Cls K W):
  MkrX P w K mg base x W 16 ["self","paper"] (spWI W CC):=by
 refine D.okX (k:=15) zcd (λvs H Q E h=>?_) (λf cdv A outer s H vs Q E hr h=>?_)
 ·obtain⟨a,pp,dx,pvs,ts,rfl,_⟩:=h;rfl
 obtain⟨a,pp,dx,pvs,ts,rfl,ea,epp,rp,hl,hg,cl,q⟩:=h;refine⟨_,(zb (zax (zob zbH hr (by omega) (by rfl) (za (pv 0) zc)))
 (zd (za1 PassesOwn.leaving rfl (zcn (pv 1)) (zZ (i:=2) zcd.nd rfl (Or.inl rfl))
 (zb (zN (zc1 (zah (zK zd7 hr (by omega) (by rfl) (za (pv 2) zc))))
 (zd (zeA zey rfl (zni zcl (by rfl) (za zam zc))))
 zy)
 (zd (zax (zbw (pv 0) c_W zcm hr (by omega) zL (za (pv 2) zc)))))))),?_⟩
 refine⟨_,rfl,a,dx,rfl,ea,λd hd=>?_⟩;have ad:a≠d:=zm ea hd;have f0:∀b o,b≠a->H b=some o->upd (upd H d (.dK [])) a (.ins W dx [("laid",.ref d)]) b=some o:=λb o n e=>by rw[zk n,zk (zm e hd)];exact e
 have ea0:upd (upd H d (.dK [])) a (.ins W dx [("laid",.ref d)]) a=some (.ins W dx [("laid",.ref d)]):=zg;have ed0:upd (upd H d (.dK [])) a (.ins W dx [("laid",.ref d)]) d=some (.dK []):=by rw[zk ad.symm];exact zg
 generalize upd (upd H d (.dK [])) a (.ins W dx [("laid",.ref d)])=H0 at f0 ea0 ed0;have pa:pp≠a:=za4 epp ea (by intro z;cases z);have epp0:=f0 _ _ pa epp;have tk0:Tups H H0:=λb xs e=>f0 b _ (za4 e ea (by intro z;cases z)) e;have rp0:=rp.keep tk0;have hpv:=rp.len;have vs0:VS H0 W a d (zJ (ts.take 0)):=⟨⟨[],⟨⟨dx,_,ea0,zmT d⟩,ed0⟩,.nil⟩,GoodC.nil⟩;refine⟨_,rfl,pp,rfl,⟨_,SqL.of epp0⟩,?_⟩;refine zds (xs:=pvs) (λi σ H'=>∃(k2:Option V),σ=[some (.ref a),some (.ref pp),k2]/\Fr1 d H0 H'/\VS H' W a d (zJ (ts.take i))/\Held (zJ (ts.take i)) (ts.take i)) ⟨_,rfl,Fr1.refl _ _,vs0,λt h=>by cases h⟩ ?_ ?_ ?_
 ·rintro i σ H' _ ⟨k2,rfl,f1,v1,_⟩;exact SqL.of (vs0.lst f1 epp0)
 ·rintro i y σ H' hy ⟨k2,rfl,f1,v1,h1⟩;have hil:i < ts.length:=by rw[<-hpv];exact(List.getElem?_eq_some_iff.mp hy).1
  have ht:ts[i]? =some ts[i]:=List.getElem?_eq_getElem hil;have ry:=(rp0.at i y _ hy ht).keep (vs0.tups f1);have g:=hg ts[i] (Jm hil);have ea1:=f1 _ _ ad ea0;have ln:=zbW ts i (by omega);refine⟨_,rfl,ts[i],y,rfl,ry,g.wf,g.dp,_,rfl,ifF rfl ?_⟩;refine⟨_,rfl,a,dx,_,rfl,ea1,(zmT d).n2,_,rfl,a,d,_,ts[i],y,rfl,v1,by omega,ry,g.good,(λnf=>cl (λnt=>nf (zcW nt hil)) H' λb o n e=>f1 b o (zm e hd) (f0 b o n e)),λH2 f2 ft v2=>?_⟩;refine⟨_,rfl,f1.trans f2,by rw[zaD hil];exact v2,?_⟩;rw[zaD hil];intro t ht';rw[List.take_add_one,ht] at ht';rcases List.mem_append.mp ht' with h | h
  ·exact zaY (h1 t h)
  ·have e:t=ts[i]:=by simpa using h
   rw[e];exact zar ft
 ·rintro σ H' ⟨k2,rfl,f1,v1,h1⟩;rw[hpv,List.take_length] at v1 h1;exact q d H' hd (λb o n e=>f1 b o (zm e hd) (f0 b o n e)) v1 h1
end
end Pv
namespace L2
open PySem PySem.Spec PyProof.Rows Px
def zps {X:Cx}{x:Str}{C:Addr}{ps:QP}{sp:Sp}{k k':Nat}{e:Expr}{es:List Expr}{t:TA}{p pos:Pos}{E:XK}(M:MkrX X.prog X.w X.K X.mg X.base x C k ps sp)(hr:Room k' X.A)(hle:k+1<=k')(hg:Gl X x)(hx:zbn (CX1 X.prog X.w) X E)(ha:PA X (e::es) t)(hd:(x==("__debug__" :Str))=false:=by decide)
  (he:starEach (e::es) X.env=(false,eval e X.env)::starEach es X.env:=by rfl) (hpl:∀pos,(backTo pos (starEach es X.env)).any (·.1)=false:=by intro _;rfl):PE X (.Call (.Name x p) (e::es) [] pos) (zix C sp [] E t):=by
 obtain⟨f,fd,a,b,mk,mm⟩:=M.ex;exact zk6 mk a (hr.mono hle) hg mm b .nil hx ha hd he (hpl _)
end L2
namespace Pv
open PySem L2
abbrev zbM:Stmt:=inClass (top 61) 0
def zgt:zr ["self","key","worth"] ["self","key","worth"] (ze zbM):=L2.fsc (by decide+kernel)
abbrev zcq:Stmt:=inClass (top 61) 1
def zhZ:zr ["self","vault","root"] ["self","vault","root"] (ze zcq):=L2.fsc (by decide+kernel)
abbrev zbc:Stmt:=top 29
def za2:zr ["keeper","root","ask","reader","answer"] ["keeper","root","ask"] (ze zbc):=L2.fsc (by decide+kernel)
abbrev zfZ:Stmt:=top 30
def zmg:zr ["root","ask","paper"] ["root","ask","paper"] (ze zfZ):=L2.fsc (by decide+kernel)
def zeF (CP:Addr)(H:Hp)(b:Addr)(x wo:Th):Prop:=∃dx v u,H b=some (.ins CP dx [("key",v),("worth",u)])/\Rep H x v/\Rep H wo u
theorem zeF.same {CP:Addr}{H H':Hp}{b:Addr}{x wo:Th}(h:zeF CP H b x wo)(s:Same H H'):zeF CP H' b x wo:=by obtain⟨dx,v,u,e,r1,r2⟩:=h;exact⟨dx,v,u,s _ _ e,r1.keep (Same.tups s),r2.keep (Same.tups s)⟩
def spI2 (C:Addr)(f g:Str):Sp:=λvs H Q _=>∃(a dx:Addr) (v u:V),vs=[.ref a,v,u]/\H a=some (.ins C dx [])/\∀H',(∀b o,b≠a->H b=some o->H' b=some o)->H' a=some (.ins C dx [(f,v),(g,u)])->Q .non H'
def zqs {f g:Str}{v u:V}(h:(f==g)=false):putF g u [(f,v)]=[(f,v),(g,u)]:=by
 unfold putF;rw[if_neg (by intro z;rw[z,beq_self_eq_true] at h;cases h)]
 rfl
def zhU (CP:Addr)(VR:VRT)(CN CB CC:Addr):Sp:=λvs H Q E=>∃(b a:Addr) (D:QO) (s:Vst) (n:Int) (x wo:Th),vs=[.ref b,.ref a,.int n]/\zeF CP H b x wo/\Good x/\VR H a D s/\Out VR CN CB CC a D (putP n x wo) s IntR H Q E
def ErS (CN CB CC:Addr)(H:Hp)(E:XK):Er->Prop
 | .bad=>∀H',Same H H'->E (.ref CB) none H'
 | .lacks=>∀H',Same H H'->E (.ref CN) none H'
 | .clash u t=>∀(x:Addr) (v1 v2:V) (H':Hp),Same H H'->Rep H' u v1->Rep H' t v2->Good u->Good t->u≠t->zj u=zj t->H' x=some (xdO x [("one",v1),("other",v2)])->E (.ref CC) (some x) H'
def znU (CP W CN CB CC:Addr):Sp:=λvs H Q E=>∃(b pp:Addr) (n:Int) (x wo:Th) (pvs:QQ) (ts:List Th),vs=[.int n,.ref b,.ref pp]/\zeF CP H b x wo/\Good x/\H pp=some (.lst pvs)/\RepL H ts pvs/\ts.length<=5000/\(∀t∈ts,G5 t)/\(¬zfm ts->ClS CC H E)/\
 (Held (zJ ts) ts->(putP n x wo).wp ⟨zJ ts,[],[],900000⟩ (λm _=>∀H',Same H H'->Q (.int m) H') (λe _=>ErS CN CB CC H E e))
def zjl {R x dx kp:Addr}{H:Hp}{Z:Hp->Prop}{E:XK}(hx:H x=none)(hdx:H dx=none)(n:dx≠x)(q:∀dl dn H',Same H H'->H dl=none->H dn=none->dl≠dn->H' x=some (.ins R dx (rFs dl kp dn))->H' dl=some (.dK [])->H' dn=some (.dK [])->Z H'):
  zhE R [.ref x,.ref kp] (upd (upd H dx (.own x)) x (.ins R dx [])) (λv H2=>v=.non/\Z H2) E:=by
 refine⟨x,kp,dx,rfl,zg,λdl dn H' f hl hn ne e1 e2 e3=>⟨rfl,?_⟩⟩;have un:∀b,upd (upd H dx (.own x)) x (.ins R dx []) b=none->H b=none:=λb hb=>by
  have xb:b≠x:=λz=>by rw[z,zg] at hb;cases hb
  rw[zk xb] at hb;have db:b≠dx:=λz=>by rw[z,zg] at hb;cases hb
  rw[zk db] at hb;exact hb
 refine q dl dn H' (λb o e=>?_) (un _ hl) (un _ hn) ne e1 e2 e3;have n1:=zm e hx;exact f b o n1 (by rw[zk n1,zk (zm e hdx)];exact e)
def zhP {R C kp dk x dx dl dn:Addr}{H H':Hp}{cs:QF}(s:Same H H')(hl:H dl=none)(hn:H dn=none)(ne:dl≠dn)(e1:H' x=some (.ins R dx (rFs dl kp dn)))(e2:H' dl=some (.dK []))(e3:H' dn=some (.dK []))(vs:VS H C kp dk cs):VRd R C kp dk H' x [dl,dn] ⟨[],cs,[],900000⟩:=by obtain⟨kv,vo,_⟩:=vs.vo;have n1:dk≠dl:=zm vo.di hl;have n2:dk≠dn:=zm vo.di hn;exact⟨⟨dl,dn,[],[],rfl,⟨⟨dx,e1⟩,e2,e3⟩,.nil,.nil,ne,n1,n2⟩,vs.same s,GoodC.nil,GoodC.nil,λn t u h _=>(by cases h),λn t h=>(by cases h),by show 0+900000<=1000000;decide,by show 0+900000<=1000000;decide⟩
def zd9 {H H1 H2:Hp}{D:QO}(s:Same H H1)(hD:∀d∈D,H d=none)(f:Frm D H1 H2):Same H H2:=λb o e=>f b o (λz=>by rw[hD b z] at e;cases e) (s b o e)
def znl (CP C CN CB CC:Addr):Sp:=λvs H Q E=>∃(kp dk b:Addr) (cs:QF) (n:Int) (x wo:Th),vs=[.ref kp,.int n,.ref b]/\VS H C kp dk cs/\zeF CP H b x wo/\Good x/\
 (putP n x wo).wp ⟨[],cs,[],900000⟩ (λm s1=>∀(p l:Addr) (ns:List Int) (xs:QQ) (H':Hp),Same H H'->GoodC s1.nt->H' p=some (.tup [.int m,.ref l])->ns.Perm (s1.nt.map (·.1))->ns.Pairwise (· <= ·)->H' l=some (.lst xs)->RepL H' (zw s1.nt ns) xs->Q (.ref p) H') (λe _=>ErS CN CB CC H E e)
section
variable {P:Program}{w:World}{K:QA}{mg:QB}{base:Heap}{VR:VRT}{CP R W C CC CN CB A:Addr}
def zo9 (D:Mkd K mg "Put" A "Put.__init__" zbM ["self","key","worth"]) (c:Cls K A) (n1:zE K A "key") (n2:zE K A "worth"):Mkr P w K mg base "Put" A 1 ["self","key","worth"] (spI2 A "key" "worth"):=by
 refine D.ok (k:=0) zgt (λvs H Q E h=>?_) (λf cdv A' outer s H vs Q E hr h=>?_)
 ·obtain⟨a,dx,v,u,rfl,_⟩:=h;rfl
 obtain⟨a,dx,v,u,rfl,ea,q⟩:=h;refine⟨_,(zb (zeX (pv 0) (pv 1) (by rfl))
 (zd (zeX (pv 0) (pv 2) (by rfl)))),?_⟩
 refine⟨_,rfl,_,rfl,a,A,dx,[],rfl,ea,c,n1,by decide,?_⟩;refine⟨_,rfl,_,rfl,a,A,dx,_,rfl,zg,c,n2,(show(1:Nat) < 1000 by decide),q _ (λb o n e=>by rw[zk n,zk n];exact e) ?_⟩;rw[zg];exact congrArg (λz=>some (HO.ins A dx z)) (zqs (by decide))
def zhS (D:Mdf K CP "answer" "Put.answer" zcq ["self","vault","root"]) (zom:FnX P w K mg base "put" 23 ["vault","root","key","worth"] (zhX VR CN CB CC)) (c:Cls K CP) (n1:zE K CP "key") (n2:zE K CP "worth"):Mt P w K mg base (CX1 P w) CP "answer" 25 ["self","vault","root"] (zhU CP VR CN CB CC):=by
 refine D.okX (k:=24) zhZ (λvs H Q E h=>?_) (λf cdv A outer s H vs Q E hr h=>?_)
 ·obtain⟨b,a,D,s,n,x,wo,rfl,_⟩:=h;rfl
 obtain⟨b,a,D,s,n,x,wo,rfl,⟨dx,v,u,eb,rk,rw'⟩,gx,vs,h⟩:=h;refine⟨_,(zd (zq (zaP zom hr (by omega) (by rfl) zL (za (pv 1) (za (pv 2) (za (zaJ (pv 0) (by rfl)) (za (zaJ (pv 0) (by rfl)) zc))))))),?_⟩;exact⟨_,rfl,_,rfl,_,rfl,b,CP,dx,_,_,rfl,eb,c,n1,rfl,_,rfl,b,CP,dx,_,_,rfl,eb,c,n2,rfl,a,D,s,n,x,wo,v,u,rfl,vs,rk,gx,rw',h⟩
def zqj (D:Dfn K mg "checked" zfZ ["root","ask","paper"]) (zmi:MkrX P w K mg base "Witness" W 16 ["self","paper"] (spWI W CC)) (zdx:Mt P w K mg base (CX1 P w) CP "answer" 25 ["self","vault","root"] (zhU CP (VK W) CN CB CC)) (c_P:Cls K CP):FnX P w K mg base "checked" 27 ["root","ask","paper"] (znU CP W CN CB CC):=by
 refine D.okX (k:=26) zmg (λvs H Q E h=>?_) (λf cdv A outer s H vs Q E hr h=>?_)
 ·obtain⟨b,pp,n,x,wo,pvs,ts,rfl,_⟩:=h;rfl
 obtain⟨b,pp,n,x,wo,pvs,ts,rfl,qa,gx,epp,rp,hl,hg,cl',h⟩:=h;refine⟨_,(zd (zq (zbw (pv 1) c_P zdx hr (by omega) zL (za (zps zmi hr (by omega) (by rfl) zL (za (pv 2) zc)) (za (pv 0) zc))))),?_⟩;obtain⟨dx,v,u,eb,_⟩:=id qa;refine⟨_,rfl,b,dx,_,rfl,eb,rfl,_,rfl,λy dx' hx hdx nx=>?_⟩;have sm:Same H (upd (upd H dx' (.own y)) y (.ins W dx' [])):=zbU (zv (Same.refl H) hdx) hx;have ex:upd (upd H dx' (.own y)) y (.ins W dx' []) y=some (.ins W dx' []):=zg;generalize upd (upd H dx' (.own y)) y (.ins W dx' [])=H1 at sm ex;refine⟨y,pp,dx',pvs,ts,rfl,ex,sm _ _ epp,rp.keep (Same.tups sm),hl,hg,(λnt H2 f2 t1 t2 v1 v2 H3 x3 s3=>cl' nt t1 t2 v1 v2 H3 x3 λc o e=>s3 c o (f2 c o (zm e hx) (sm c o e))),λd H2 hd f2 vs2 held=>⟨rfl,?_⟩⟩;have s2:Same H H2:=λc o e=>f2 c o (zm e hx) (sm c o e);have hd0:H d=none:=by
  cases z:H d with
  | none=>rfl
  | some o=>rw[sm _ _ z] at hd;cases hd
 have sf:∀{H3:Hp},Frm [d] H2 H3->Same H H3:=λf3 c o e=>f3 c o (λz=>by rw[Ji.mp z,hd0] at e;cases e) (s2 c o e);have ln:=zbW ts ts.length (Jb _);rw[List.take_length] at ln;refine⟨_,rfl,b,y,[d],⟨zJ ts,[],[],900000⟩,n,x,wo,rfl,qa.same s2,gx,⟨⟨d,rfl,vs2⟩,rfl,by show(zJ ts).length+900000<=1000000;omega⟩,Pg.wp_mono (λm s1 z v H3 f3 v3 r3=>?_) (λe s1 z=>?_) (h held)⟩
 ·have r3':v=.int m:=r3;subst r3';exact z H3 (sf f3)
 ·cases e with
  | bad=>exact λH3 f3 _=>z H3 (sf f3)
  | lacks=>exact λH3 f3 _=>z H3 (sf f3)
  | clash u t=>exact λx v1 v2 H3 f3 _=>z x v1 v2 H3 (sf f3)
def zqP (D:Dfn K mg "answer_with_paper" zbc ["keeper","root","ask"]) (zon:Mkr P w K mg base "Reader" R 2 ["self","keeper"] (zhE R)) (zpx:Mt P w K mg base CX0 R "paper" 2 ["self"] (zkN R)) (c_R:Cls K R) (M:∀kp dk,Mt P w K mg base (CX1 P w) CP "answer" 25 ["self","vault","root"] (zhU CP (VRd R C kp dk) CN CB CC)) (c_P:Cls K CP):FnX P w K mg base "answer_with_paper" 27 ["keeper","root","ask"] (znl CP C CN CB CC):=by
 refine D.okX (k:=26) za2 (λvs H Q E h=>?_) (λf cdv A outer s H vs Q E hr h=>?_)
 ·obtain⟨kp,dk,b,cs,n,x,wo,rfl,_⟩:=h;rfl
 obtain⟨kp,dk,b,cs,n,x,wo,rfl,vs,qa,gx,h⟩:=h;have zdx:=M kp dk;refine⟨_,(zb (zu (i:=3) za2.nd rfl (Or.inl rfl) (zn3 zon hr (by omega) (by rfl) (za (pv 0) zc)))
 (zb (zu (i:=4) za2.nd rfl (Or.inl rfl) (zbw (pv 2) c_P zdx hr (by omega) zL (za (pv 3) (za (pv 1) zc))))
 (zd (zq (zbj (za (pv 4) (za (zgE (pv 3) c_R zpx hr (by omega) zdS) zc))))))),?_⟩
 refine⟨_,rfl,λy dx hx hdx nx=>zjl hx hdx nx λdl dn H1 s1 hl hn ne e1 e2 e3=>?_⟩;have vr:=zhP s1 hl hn ne e1 e2 e3 vs;obtain⟨dxb,v,u,eb,_⟩:=qa.same s1;have hD:∀d∈ [dl,dn],H d=none:=λd hd=>by
  simp only[List.mem_cons,List.not_mem_nil,or_false] at hd;rcases hd with rfl | rfl
  ·exact hl
  ·exact hn
 refine⟨_,rfl,b,dxb,_,rfl,eb,rfl,_,rfl,_,rfl,b,y,[dl,dn],⟨[],cs,[],900000⟩,n,x,wo,rfl,qa.same s1,gx,vr,Pg.wp_mono (λm s2 z v H2 f2 v2 r2=>?_) (λe s2 z=>?_) h⟩
 ·have r2':v=.int m:=r2;subst r2';have s02:=zd9 s1 hD f2;obtain⟨dl',dn',kvs,nvs,eD,ro,d1,d2,_⟩:=v2.ro;obtain⟨⟨dx2,eo⟩,ed,en⟩:=id ro;refine⟨_,rfl,_,rfl,y,dx2,_,rfl,eo,rfl,y,dl',kp,dn',kvs,nvs,s2.nt,rfl,ro,d2,by have:=v2.r2;omega,λl ns xs H3 s3 hl3 hp hs el rr=>?_⟩;refine⟨szl (show 2<=1000 by decide),λp hp3=>?_⟩;have s34:Same H3 (upd H3 p (.tup [.int m,.ref l])):=zv (Same.refl H3) hp3;exact z p l ns xs _ (λc o e=>s34 c o (s3 c o (s02 c o e))) v2.g2 zg hp hs (s34 _ _ el) (rr.keep (Same.tups s34))
 ·cases e with
  | bad=>exact λH3 f3 _=>z H3 (zd9 s1 hD f3)
  | lacks=>exact λH3 f3 _=>z H3 (zd9 s1 hD f3)
  | clash u t=>exact λx v1 v2 H3 f3 _=>z x v1 v2 H3 (zd9 s1 hD f3)
end
abbrev zcA:Stmt:=top 32
def zgG:zr ["keeper","number","thing"] ["keeper","number","thing"] (ze zcA):=L2.fsc (by decide+kernel)
abbrev zeL:Stmt:=top 33
def zcg:zr ["paper","keeper","clashing","thing","number","lowest"] ["paper","keeper"] (ze zeL):=L2.fsc (by decide+kernel)
def zc4 (cs:QF)(n:Int)(t:Th):Bool:=match zf cs n with | some u=>!eqT u t | none=>false
abbrev Due:=Option (Int ×Th ×Th)
def zb4 (cs:QF)(st:Due)(t:Th):Due:=match zf cs (zj t) with
 | some u=>if eqT u t=true then st else match st with | none=>some (zj t,t,u) | some (b,x)=>if zj t < b then some (zj t,t,u) else some (b,x)
 | none=>st
def dueT (cs:QF)(ts:List Th):Due:=ts.foldl (zb4 cs) none
def resT:Due->Th
 | none=>.non
 | some (_,t,u)=>.tup [t,u]
def RelC (cs acc:QF)(st:Due):Prop:=(st=none/\acc=[])\/∃b t u,st=some (b,t,u)/\zf acc b=some t/\zf cs b=some u/\∀m∈acc.map (·.1),b<=m
def RelC.quiet {cs acc:QF}{st:Due}{t:Th}(r:RelC cs acc st)(h:zc4 cs (zj t) t=false):RelC cs acc (zb4 cs st t):=by
 have:zb4 cs st t=st:=by
  unfold zb4;unfold zc4 at h;cases e:zf cs (zj t) with
  | none=>rfl
  | some u=>
   rw[e] at h;have h':(!eqT u t)=false:=h;have:eqT u t=true:=by cases z:eqT u t with | true=>rfl | false=>rw[z] at h';cases h'
   exact if_pos this
 rw[this];exact r
def zfo {cs:QF}{n:Int}{t:Th}(h:zc4 cs n t=true):∃u,zf cs n=some u/\eqT u t=false:=by
 unfold zc4 at h;cases e:zf cs n with
 | none=>rw[e] at h;cases h
 | some u=>rw[e] at h;have h':(!eqT u t)=true:=h;exact⟨u,rfl,by cases z:eqT u t with | true=>rw[z] at h';cases h' | false=>rfl⟩
theorem zbL {cs:QF}{st:Due}{t u:Th}(e:zf cs (zj t)=some u)(h:eqT u t=false):zb4 cs st t=match st with | none=>some (zj t,t,u) | some (b,x)=>if zj t < b then some (zj t,t,u) else some (b,x):=by unfold zb4;rw[e];exact if_neg (by rw[h];exact Jf)
theorem RelC.there {cs acc:QF}{st:Due}{t y:Th}(r:RelC cs acc st)(h:zf acc (zj t)=some y):RelC cs acc (zb4 cs st t):=by
 cases hc:zc4 cs (zj t) t with
 | false=>exact r.quiet hc
 | true=>
  obtain⟨u,e,ne⟩:=zfo hc;rcases r with ⟨rfl,rfl⟩ | ⟨b,x,z,rfl,e1,e2,e3⟩
  ·cases h
  ·have hm:zj t∈acc.map (·.1):=List.mem_map_of_mem (zcb h);have:=e3 _ hm;refine .inr ⟨b,x,z,?_,e1,e2,e3⟩;rw[zbL e ne];show(if zj t < b then _ else _)=_;rw[if_neg (by omega)]
theorem RelC.more {cs acc:QF}{st:Due}{t:Th}(r:RelC cs acc st)(h:zf acc (zj t)=none)(hc:zc4 cs (zj t) t=true):RelC cs (acc++ [(zj t,t)]) (zb4 cs st t):=by
 obtain⟨u,e,ne⟩:=zfo hc;rcases r with ⟨rfl,rfl⟩ | ⟨b,x,z,rfl,e1,e2,e3⟩
 ·refine .inr ⟨zj t,t,u,by rw[zbL e ne],?_,e,λm hm=>?_⟩
  ·rw[zaS];show(if zj t=zj t then some t else none)=some t;exact if_pos rfl
  ·rw[List.nil_append] at hm;cases Ji.mp hm;exact Jx _
 ·by_cases lt:zj t < b
  ·refine .inr ⟨zj t,t,u,?_,?_,e,λm hm=>?_⟩
   ·rw[zbL e ne];show(if zj t < b then _ else _)=_;rw[if_pos lt]
   ·rw[zaS,h];exact if_pos rfl
   ·rw[List.map_append,List.mem_append] at hm;rcases hm with hm | hm
    ·have:=e3 m hm;omega
    ·cases Ji.mp hm;exact Jx _
  ·refine .inr ⟨b,x,z,?_,?_,e2,λm hm=>?_⟩
   ·rw[zbL e ne];show(if zj t < b then _ else _)=_;rw[if_neg lt]
   ·rw[zaS,e1]
   ·rw[List.map_append,List.mem_append] at hm;rcases hm with hm | hm
    ·exact e3 m hm
    ·cases Ji.mp hm;show b<=zj t;omega
theorem ze8 {cs:QF}{ts:List Th}{i:Nat}(h:i < ts.length):dueT cs (ts.take (i+1))=zb4 cs (dueT cs (ts.take i)) ts[i]:=by
 unfold dueT;rw[List.take_add_one,List.getElem?_eq_getElem h,List.foldl_append]
 rfl
def zdP (C:Addr):Sp:=λvs H Q _=>∃(a d:Addr) (kvs:QG) (cs:QF) (n:Int) (t:Th) (v:V),vs=[.ref a,.int n,v]/\VOk H C a d kvs/\DRep H cs kvs/\(∀p∈cs,dep p.2<=8)/\Rep H t v/\∀H',Same H H'->Q (.bl (zc4 cs n t)) H'
def zhc (C:Addr):Sp:=λvs H Q _=>∃(pp a d:Addr) (pvs:QQ) (ps:List Th) (kvs:QG) (cs:QF),vs=[.ref pp,.ref a]/\H pp=some (.lst pvs)/\RepL H ps pvs/\ps.length<=5000/\(∀t∈ps,G5 t)/\
 VOk H C a d kvs/\DRep H cs kvs/\(∀p∈cs,dep p.2<=8)/\∀(v:V) (H':Hp),Same H H'->Rep H' (resT (dueT cs ps)) v->Q v H'
section
variable {P:Program}{w:World}{K:QA}{mg:QB}{base:Heap}{C CN:Addr}
def zgL (D:Dfn K mg "clashes_with" zcA ["keeper","number","thing"]) (zc5:Mt P w K mg base (CX1 P w) C "thing" 1 ["self","number"] (zez C CN)) (c_K:Cls K C) (zfe:mg "NoPaper" =some (.ref CN)) (em:PySem.W.exmOne K (.ref CN) (.ref CN)=some true):
  Fn P w K mg base "clashes_with" 2 ["keeper","number","thing"] (zdP C):=by
 refine D.ok (k:=1) zgG (λvs H Q E h=>?_) (λf cdv A outer s H vs Q E hr h=>?_)
 ·obtain⟨a,d,kvs,cs,n,t,v,rfl,_⟩:=h;rfl
 obtain⟨a,d,kvs,cs,n,t,v,rfl,vo,dr,hd,rt,q⟩:=h;refine⟨_,(zd (zkJ rfl rfl (by rfl) zfe (λxe pn E hx=>(zd (zq (zaF (zei hr) (zqY (pv 0) c_K zc5 hr (by omega) hx (za (pv 1) zc)) (pv 2) (zA _))))) (λe=>(zd (zq zb2))))),?_⟩;obtain⟨⟨dx,fs,eo,fl⟩,ed⟩:=id vo;refine⟨_,rfl,a,dx,_,rfl,eo,fl.n3,_,rfl,a,d,kvs,n,rfl,vo,λu ev=>?_,λev=>⟨CN,rfl,em,λe he=>?_⟩⟩
 ·obtain⟨tu,e1,ru⟩:=dr.back ev;have hdu:dep tu<=8:=hd _ (zcb e1);refine⟨_,rfl,tu,t,ru,rt,by omega,?_⟩;have:=q H (Same.refl H);unfold zc4 at this;rw[e1] at this;exact this
 ·have e1:zf cs n=none:=by
   cases z:zf cs n with
   | none=>rfl
   | some u=>obtain⟨v',e',_⟩:=dr.some z;rw[ev] at e';cases e'
  have:=q _ (zv (o:=exO e CN none false) (Same.refl H) he);unfold zc4 at this;rw[e1] at this;exact this
def zjY (D:Dfn K mg "clash_of" zeL ["paper","keeper"]) (zgW:Fn P w K mg base "clashes_with" 2 ["keeper","number","thing"] (zdP C)) (zd7:Fn P w K mg base "is_thing" 15 ["thing"] znx) (zcD:Fn P w K mg base "seal" 13 ["thing"] zeY)
  (zc5:Mt P w K mg base CX0 C "thing" 1 ["self","number"] (zi1 C)) (c_K:Cls K C) (zR:mg "len" =none) (zoo:mg "min" =none):Fn P w K mg base "clash_of" 16 ["paper","keeper"] (zhc C):=by
 refine D.ok (k:=15) zcg (λvs H Q E h=>?_) (λf cdv A outer s H vs Q E hr h=>?_)
 ·obtain⟨pp,a,d,pvs,ps,kvs,cs,rfl,_⟩:=h;rfl
 obtain⟨pp,a,d,pvs,ps,kvs,cs,rfl,epp,rp,hpl,hg,vo,dr,hd,q⟩:=h;refine⟨_,(zb (zu (i:=2) zcg.nd rfl (Or.inl rfl) zc9)
 (zb (za1 PassesOwn.never rfl (zcn (pv 0)) (zZ (i:=3) zcg.nd rfl (Or.inl rfl))
 (zd (zN (zah (zK zd7 hr (by omega) (by rfl) (za (pv 3) zc)))
 (zb (zu (i:=4) zcg.nd rfl (Or.inl rfl) (zK zcD hr (by omega) (by rfl) (za (pv 3) zc)))
 (zd (zN (PW.pt (zgA (zgN (ze0 (zbv hr) (pv 4) (pv 2))) (zex (zah (zK zgW hr (by omega) (by rfl) (za (pv 1) (za (pv 4) (za (pv 3) zc))))))))
 (zd (zec (zbv hr) (pv 2) (pv 4) (pv 3) (by rfl)))
 zy)))
 zy)))
 (zb (zN (zB zb0 (zF (zjj) (by rfl) zR (by rfl) (za (pv 2) zc)) zo (zA _))
 (zd (zq zch))
 zy)
 (zb (zu (i:=5) zcg.nd rfl (Or.inl rfl) (zF (zlX rfl) (by rfl) zoo (by rfl) (za (pv 2) zc)))
 (zd (zq (zbj (za (zcu (zbv hr) (pv 2) (pv 5) (λ_ _=>rfl)) (za (zbw (pv 1) c_K zc5 hr (by omega) zdS (za (pv 5) zc)) zc))))))))),?_⟩
 intro dc hdc;have s0:Same H (upd H dc (.dK [])):=zv (Same.refl H) hdc;have edc:upd H dc (.dK []) dc=some (.dK []):=zg;have hpv:=rp.len;refine⟨_,rfl,pp,rfl,⟨_,SqL.of (s0 _ _ epp)⟩,?_⟩;refine zds (xs:=pvs) (λi σ H'=>∃(k3 k4:Option V) (acc:QF) (akv:QG),σ=[some (.ref pp),some (.ref a),some (.ref dc),k3,k4,none]/\Same H H'/\H' dc=some (.dK akv)/\DRep H' acc akv/\acc.length<=i/\RelC cs acc (dueT cs (ps.take i))) ⟨_,_,[],[],rfl,s0,edc,.nil,Jb _,.inl ⟨rfl,rfl⟩⟩ ?_ ?_ ?_
 ·rintro i σ H' _ ⟨k3,k4,acc,akv,rfl,sm,ec,ra,la,rc⟩;exact SqL.of (sm _ _ epp)
 ·rintro i x σ H' hx ⟨k3,k4,acc,akv,rfl,sm,ec,ra,la,rc⟩;have hil:i < ps.length:=by rw[<-hpv];exact(List.getElem?_eq_some_iff.mp hx).1
  have ht:ps[i]? =some ps[i]:=List.getElem?_eq_getElem hil;have rx:=(rp.at i x _ hx ht).keep (Same.tups sm);have g:=hg ps[i] (Jm hil);have gd:=g.dp;have gn:=g.nd;refine⟨_,rfl,ps[i],x,rfl,rx,g.wf,gd,_,rfl,ifT rfl ?_⟩;refine⟨_,rfl,ps[i],x,rfl,rx,g.wf,by omega,by omega,λH3 s3=>?_⟩;have sm3:Same H H3:=λb o e=>s3 b o (sm b o e);have ec3:=s3 _ _ ec;have ra3:=ra.keep (Same.tups s3);refine⟨_,rfl,_,rfl,dc,_,rfl,DGet.k (k:=Sum.inl (zj ps[i])) ec3,_,rfl,?_⟩;cases e:zf acc (zj ps[i]) with
  | some y=>obtain⟨vy,ev,_⟩:=ra3.some e;rw[ev];refine ifF rfl (ifF rfl ?_);refine⟨_,_,acc,akv,rfl,sm3,ec3,ra3,by omega,?_⟩;rw[ze8 hil];exact rc.there e
  | none=>
   rw[ra3.none e];refine ifT rfl ?_;refine⟨_,rfl,_,rfl,_,rfl,a,d,kvs,cs,_,ps[i],x,rfl,vo.keep sm3,dr.keep (Same.tups sm3),hd,rx.keep (Same.tups s3),λH4 s4=>⟨_,rfl,?_⟩⟩;have sm4:Same H H4:=λb o e=>s4 b o (sm3 b o e);have ec4:=s4 _ _ ec3;have ra4:=ra3.keep (Same.tups s4);have rx4:=(rx.keep (Same.tups s3)).keep (Same.tups s4);refine ifB (λc=>?_) (λc=>?_)
   ·have lak:=ra4.len;refine⟨_,rfl,_,rfl,_,rfl,dc,_,rfl,DPut.k (k:=Sum.inl (zj ps[i])) ec4 (Jg (show akv.length < 10000 by omega) (szL (by decide))),?_⟩;have tk:Tups H4 (upd H4 dc (.dK (putK akv (.inl (zj ps[i])) x))):=Tups.upd λxs z=>by rw[ec4] at z;cases z
    refine⟨_,_,acc++ [(zj ps[i],ps[i])],_,rfl,zbU sm4 hdc,zg,(ra4.put rx4 e).keep tk,by rw[List.length_append,List.length_singleton];omega,?_⟩;rw[ze8 hil];exact rc.more e c
   ·refine⟨_,_,acc,akv,rfl,sm4,ec4,ra4,by omega,?_⟩;rw[ze8 hil];exact rc.quiet c
 ·rintro σ H' ⟨k3,k4,acc,akv,rfl,sm,ec,ra,la,rc⟩;rw[hpv,List.take_length] at rc;refine⟨_,rfl,dc,akv,rfl,ec,rfl,_,rfl,?_⟩;rw[zcO];rcases rc with ⟨e1,e2⟩ | ⟨b,t,u,e1,e2,e3,e4⟩
  ·subst e2;cases ra;refine ifT (by decide) ?_;have:=q .non H' sm;rw[e1] at this;exact this .non
  ·have lk:=ra.len;have hb:b∈acc.map (·.1):=List.mem_map_of_mem (zcb e2);have h0:0 < acc.length:=by
    cases acc with
    | nil=>cases hb
    | cons _ _=>exact Nat.succ_pos _
   refine ifF (Je (by omega)) ?_;refine⟨_,rfl,dc,akv,rfl,ec,ra.keys.2,by omega,λn hn hm=>?_⟩;rw[ra.keys.1] at hn hm;have en:n=b:=by have:=e4 n hn;have:=hm b hb;omega
   subst en;obtain⟨vt,et,rt⟩:=ra.some e2;obtain⟨vu,eu,ru⟩:=(dr.keep (Same.tups sm)).some e3;have dg:DGet H' dc (.int n) (some vt):=by rw[<-et];exact DGet.k (k:=Sum.inl n) ec
   have vo':=vo.keep sm;obtain⟨⟨dx,fs,eo,fl⟩,ed⟩:=id vo';refine⟨_,rfl,_,rfl,dc,vt,rfl,dg,_,rfl,a,dx,_,rfl,eo,fl.n3,_,rfl,a,d,kvs,n,vu,rfl,vo',eu,szl (show 2<=1000 by decide),λp hp=>?_⟩;have:=q (.ref p) _ (zv (o:=.tup [vt,vu]) sm hp);rw[e1] at this;exact this ((RepL.cons rt (.cons ru .nil)).new hp)
end
end Pv
namespace L2
open PySem PySem.Spec PyProof.Rows Px
def zkp (K:QA)(cv cv2:Value)(ts ts2:TS)(D:Ends):St->XK:=fun σ cls od H'=>∃C,cls=.ref C/\((PySem.W.exmOne K (.ref C) cv=some true/\∀e,H' e=none->ts D σ (upd H' e (exO e C od false)))\/
 (PySem.W.exmOne K (.ref C) cv=some false/\PySem.W.exmOne K (.ref C) cv2=some true/\∀e,H' e=none->ts2 D σ (upd H' e (exO e C od false))))
def zqf (K:QA)(cv cv2:Value)(tb:(St->XK)->TS)(ts ts2:TS):TS:=λD σ H=>tb (zkp K cv cv2 ts ts2 D) D σ H
section
variable {X:Cx}{x y n:Str}{cv cv2:Value}{body suite suite2:List Stmt}{b₀ b₁:Stmt}{np np2 hpos hpos2 pos:Pos}{tb:(St->XK)->TS}{ts ts2:TS}
def znb (hst:X.stack=X.env::X.outer)(hfm:X.env.frame=some X.env.locals)(hg:Gl X x)(hm:X.mg x=some cv)(hg2:Gl X y)(hm2:X.mg y=some cv2)
  (hb:∀xe pn E,zbp (CX1 X.prog X.w) (X.tried xe pn) E->PSs (X.tried xe pn) body (tb E)) (hs:∀e,PSs (X.suite e) (b₀::suite) ts) (hs2:∀e,PSs (X.suite e) (b₁::suite2) ts2) (hdb2:(y==("__debug__" :Str))=false:=by decide) (hdb:(x==("__debug__" :Str))=false:=by decide):
  PS X (.Try body [.ExceptHandler (some (.Name x np)) none (b₀::suite) hpos,.ExceptHandler (some (.Name y np2)) none (b₁::suite2) hpos2] [] [] pos) (zqf X.K cv cv2 tb ts ts2):=by
 intro pins s σ H D I h;have key:zbp (CX1 X.prog X.w) (X.tried (λe s₁=>wpAny (model X.prog X.w) X.A (noteFrame e X.env) (λ_ s₂=>wpAny (model X.prog X.w) X.A (setFlight e none) (λ_ s₃=>
   wpAny (model X.prog X.w) X.A (handleBy e X.env [.ExceptHandler (some (.Name x np)) none (b₀::suite) hpos,.ExceptHandler (some (.Name y np2)) none (b₁::suite2) hpos2]) (SP X pins D) X.xe s₃) X.xe s₂) X.xe s₁) (X.pn++pins)) (zkp X.K cv cv2 ts ts2 D):=by
  intro pins' σ' H1 s1 e s2 I1 hc;obtain⟨ea,cls,od,H',T,rfl,os,bare,un,hok,tb',old,nT,u1,u2,C,rfl,hq⟩:=hc;have J0:Inv X pins σ' H1 s1:=I1.untried;have J:=J0.call' os un hok bare (λb z=>nomatch z);show wpAny _ _ (noteFrame (.ref ea) X.env) _ _ s2;refine znG (base:=X.base) (by rw[<-hst];exact J.ok.frames) (by rw[<-hst];exact J.stack) hfm tb' λh3 T' z t3 c3=>?_;rw[show(X.env::X.outer).filterMap (·.frame)=frs X.stack from by rw[hst];rfl] at c3;have c3':Chg2 (frs X.stack) (λb=>b=ea\/b=T\/b=T') s2.heap h3:=c3.mono λb y=>y.elim .inl λy=>.inr (.inl y);have J3:=J0.caught os bare un hok old nT u1 u2 z c3' t3;have LT:PySem.W.Looks (model X.prog X.w) h3 (typeOf (.ref ea)) (.ref C):=by obtain⟨vs,sl,ge,_⟩:=zct J3.hok zg;exact(PySem.W.Looks.ld ge).andThen .now
  rcases hq with ⟨em,q⟩ | ⟨em0,em,q⟩
  ·refine wpAny_handleBy_cons (codeAny_handlers_test (zba (X:=X.suite ea) (J3.suite ea) hg hm ?_ hdb)) (by intro y;cases y);refine(PySem.W.exm_one J3.kIn LT em).here (s:={s2 with heap:=h3}) ?_;refine codeAny_handlers_suite ?_;refine zdZ (s:={s2 with heap:=h3}) (fs:=frs X.stack) t3 λh4 t4 c4 k4=>?_;have J4:=J0.caught os bare un hok old nT u1 u2 z (c3'.trans (c4.two (own:=λb=>b=ea\/b=T\/b=T') (.inl rfl) (.inl (.inr (.inr rfl))))) t4;refine wpAny_mono (hs ea pins {s2 with heap:=h4} _ _ D (J4.suite ea) (q ea u1)) (λf s6 q6=>?_) λ_ _ y=>y.elim;cases f with
   | next=>obtain⟨σ6,H6,J6,y⟩:=q6;exact⟨_,_,J6.unsuite J0.ok,y⟩
   | brk=>obtain⟨σ6,H6,J6,y⟩:=q6;exact⟨_,_,J6.unsuite J0.ok,y⟩
   | cont=>obtain⟨σ6,H6,J6,y⟩:=q6;exact⟨_,_,J6.unsuite J0.ok,y⟩
   | ret u=>obtain⟨v6,σ6,H6,J6,rv,y⟩:=q6;exact⟨_,_,_,J6.unsuite J0.ok,rv,y⟩
  ·refine wpAny_handleBy_cons (codeAny_handlers_test (zba (X:=X.suite ea) (J3.suite ea) hg hm ?_ hdb)) (by intro y;cases y);refine(PySem.W.exm_one J3.kIn LT em0).here (s:={s2 with heap:=h3}) ?_;show wpAny _ _ (handleBy _ _ _) _ _ _;refine wpAny_handleBy_cons (codeAny_handlers_test (zba (X:=X.suite ea) (J3.suite ea) hg2 hm2 ?_ hdb2)) (by intro y;cases y);refine(PySem.W.exm_one J3.kIn LT em).here (s:={s2 with heap:=h3}) ?_;refine codeAny_handlers_suite ?_;refine zdZ (s:={s2 with heap:=h3}) (fs:=frs X.stack) t3 λh4 t4 c4 k4=>?_;have J4:=J0.caught os bare un hok old nT u1 u2 z (c3'.trans (c4.two (own:=λb=>b=ea\/b=T\/b=T') (.inl rfl) (.inl (.inr (.inr rfl))))) t4;refine wpAny_mono (hs2 ea pins {s2 with heap:=h4} _ _ D (J4.suite ea) (q ea u1)) (λf s6 q6=>?_) λ_ _ y=>y.elim;cases f with
   | next=>obtain⟨σ6,H6,J6,y⟩:=q6;exact⟨_,_,J6.unsuite J0.ok,y⟩
   | brk=>obtain⟨σ6,H6,J6,y⟩:=q6;exact⟨_,_,J6.unsuite J0.ok,y⟩
   | cont=>obtain⟨σ6,H6,J6,y⟩:=q6;exact⟨_,_,J6.unsuite J0.ok,y⟩
   | ret u=>obtain⟨v6,σ6,H6,J6,rv,y⟩:=q6;exact⟨_,_,_,J6.unsuite J0.ok,rv,y⟩
 refine wpAny_Try_except (wpAny_mono (hb _ (X.pn++pins) _ key [] s σ H D (I.tried _) h) (λf s₁ q=>?_) λ_ _ y=>y);cases f with
 | next=>obtain⟨σ',H',I',y⟩:=q;exact wpAny_execs_nil ⟨σ',H',I'.untried,y⟩
 | brk=>obtain⟨σ',H',I',y⟩:=q;exact⟨σ',H',I'.untried,y⟩
 | cont=>obtain⟨σ',H',I',y⟩:=q;exact⟨σ',H',I'.untried,y⟩
 | ret u=>obtain⟨v,σ',H',I',rv,y⟩:=q;exact⟨v,σ',H',I'.untried,rv,y⟩
end
end L2
namespace Pv
open PySem L2
abbrev zj2:Stmt:=top 34
def zkD:zr ["root","ask","paper","keeper","told"] ["root","ask","paper","keeper"] (ze zj2):=L2.fsc (by decide+kernel)
def resS (ks:QF)(ts:List Th):Str:=if (dueT ks ts).isNone=true then Str.ofString "wrong" else Str.ofString "clash"
def zk5 (ks:QF)(ts:List Th):Er->Str
 | .clash _ _=>Str.ofString "clash"
 | _=>resS ks ts
def zih (CP C:Addr):Sp:=λvs H Q _=>∃(b pp kp dk:Addr) (n:Int) (x wo:Th) (pvs:QQ) (ts:List Th) (ks:QF),vs=[.int n,.ref b,.ref pp,.ref kp]/\zeF CP H b x wo/\Good x/\H pp=some (.lst pvs)/\RepL H ts pvs/\ts.length<=5000/\(∀t∈ts,G5 t)/\VS H C kp dk ks/\
 (¬zfm ts->∀H',Same H H'->Q (.str (Str.ofString "refused")) H')/\
 (Held (zJ ts) ts->(putP n x wo).wp ⟨zJ ts,[],[],900000⟩ (λm1 _=>(putP n x wo).wp ⟨[],ks,[],900000⟩ (λm2 _=>∀H',Same H H'->Q (.str (if m1=m2 then Str.ofString "right" else resS ks ts)) H') (λe _=>∀H',Same H H'->Q (.str (zk5 ks ts e)) H')) (λ_ _=>∀H',Same H H'->Q (.str (Str.ofString "refused")) H'))
section
variable {P:Program}{w:World}{K:QA}{mg:QB}{base:Heap}{CP W C CC CN CB CVaultError:Addr}
def znD (D:Dfn K mg "shown" zj2 ["root","ask","paper","keeper"]) (zff:FnX P w K mg base "checked" 27 ["root","ask","paper"] (znU CP W CN CB CC)) (za3:FnX P w K mg base "answer_with_paper" 27 ["keeper","root","ask"] (znl CP C CN CB CC)) (zj6:Fn P w K mg base "clash_of" 16 ["paper","keeper"] (zhc C)) (zb9:mg "VaultError" =some (.ref CVaultError)) (zdM:mg "Clash" =some (.ref CC))
  (e1:PySem.W.exmOne K (.ref CN) (.ref CVaultError)=some true) (e2:PySem.W.exmOne K (.ref CB) (.ref CVaultError)=some true) (e3:PySem.W.exmOne K (.ref CC) (.ref CVaultError)=some true) (e4:PySem.W.exmOne K (.ref CN) (.ref CC)=some false) (e5:PySem.W.exmOne K (.ref CB) (.ref CC)=some false) (e6:PySem.W.exmOne K (.ref CC) (.ref CC)=some true):
  Fn P w K mg base "shown" 28 ["root","ask","paper","keeper"] (zih CP C):=by
 refine D.ok (k:=27) zkD (λvs H Q E h=>?_) (λf cdv A outer s H vs Q E hr h=>?_)
 ·obtain⟨b,pp,kp,dk,n,x,wo,pvs,ts,ks,rfl,_⟩:=h;rfl
 obtain⟨b,pp,kp,dk,n,x,wo,pvs,ts,ks,rfl,qa,gx,epp,rp,hl,hg,vs,qr,h⟩:=h;refine⟨_,(zb (zkJ rfl rfl (by rfl) zb9 (λxe pn E hx=>(zd (zu (i:=4) zkD.nd rfl (Or.inl rfl) (zjk zff hr (by omega) (by rfl) hx (za (pv 0) (za (pv 1) (za (pv 2) zc))))))) (λe=>(zd (zq zam))))
 (zb (znb rfl rfl (by rfl) zdM (by rfl) zb9 (λxe pn E hx=>(zd (zN (zB zb0 (pv 4) (zH (zoI (K:=K) rfl) (zjk za3 hr (by omega) (by rfl) hx (za (pv 3) (za (pv 0) (za (pv 1) zc)))) zo (λ_ _=>rfl)) (zA _))
 (zd (zq zam))
 zy))) (λe=>(zd (zq zam))) (λe=>(zd zpn)))
 (zd (zq (zew (zB zd3 (zK zj6 hr (by omega) (by rfl) (za (pv 2) (za (pv 3) zc))) zch (zA _)) zam zam))))),?_⟩
 refine⟨_,rfl,_,rfl,_,rfl,b,pp,n,x,wo,pvs,ts,rfl,qa,gx,epp,rp,hl,hg,(λnt t1 t2 v1 v2 H1 x1 s1 _ _ _ _ _ _ _=>⟨CC,rfl,e3,λe he=>qr nt _ (zv s1 he)⟩),λheld=>Pg.wp_mono (λm1 _ h1 H1 s1=>?_) (λe _ z=>?_) (h held)⟩
 rotate_left
 ·cases e with
  | bad=>exact λH1 s1=>⟨CB,rfl,e2,λe he=>z _ (zv s1 he)⟩
  | lacks=>exact λH1 s1=>⟨CN,rfl,e1,λe he=>z _ (zv s1 he)⟩
  | clash u t=>exact λx1 v1 v2 H1 s1 _ _ _ _ _ _ _=>⟨CC,rfl,e3,λe he=>z _ (zv s1 he)⟩
 dsimp only[zdR];refine zga (fun σ H'=>σ=[some (.int n),some (.ref b),some (.ref pp),some (.ref kp),some (.int m1)]/\Same H H'/\∀H',Same H H'->Q (.str (resS ks ts)) H') (λN hN=>?_) ?_
 ·refine⟨_,rfl,_,rfl,_,rfl,_,rfl,kp,dk,b,ks,n,x,wo,rfl,vs.same s1,qa.same s1,gx,Pg.wp_mono (λm2 s2 h2 p l ns xs H2 s2' gc ep hp hs el rl=>?_) (λe s2 h2=>?_) h1⟩
  ·refine⟨p,_,_,_,rfl,rfl,SqT.of ep,rfl,rfl,_,rfl,?_⟩;rw[zcO];by_cases c:m1=m2
   ·rw[if_pos c] at h2;exact ifT (decide_eq_true c) (h2 _ (s1.trans s2'))
   ·rw[if_neg c] at h2;exact ifF (Je c) (hN _ _ ⟨rfl,s1.trans s2',h2⟩)
  ·cases e with
   | bad=>exact λH2 s2=>⟨CB,rfl,.inr ⟨e5,e2,λe he=>hN _ _ ⟨rfl,zv (s1.trans s2) he,h2⟩⟩⟩
   | lacks=>exact λH2 s2=>⟨CN,rfl,.inr ⟨e4,e1,λe he=>hN _ _ ⟨rfl,zv (s1.trans s2) he,h2⟩⟩⟩
   | clash u t=>exact λx1 v1 v2 H2 s2 _ _ _ _ _ _ _=>⟨CC,rfl,.inl ⟨e6,λe he=>h2 _ (zv (s1.trans s2) he)⟩⟩
 ·rintro σ H2 ⟨rfl,s2,qq⟩;obtain⟨kv,vo,dr⟩:=(vs.same s2).vo;refine⟨_,rfl,_,rfl,pp,kp,dk,pvs,ts,kv,ks,rfl,s2 _ _ epp,rp.keep (Same.tups s2),hl,hg,vo,dr,λp hp=>Jk (vs.gc.gd p hp).1.dp (by decide),λv H3 s3 rv=>⟨rfl,_,rfl,?_⟩⟩;have qq:=qq H3 (s2.trans s3);unfold resS at qq;cases hd:dueT ks ts with
  | none=>rw[hd] at rv qq;cases rv;exact ifT rfl qq
  | some z=>
   obtain⟨a1,a2,a3⟩:=z;rw[hd] at rv qq;cases rv with
   | tup e l h=>exact ifF rfl qq
end
abbrev zcz:Stmt:=top 63
def zgx:zr ["script","k"] ["script","k"] (ze zcz):=L2.fsc (by decide+kernel)
abbrev zcU:Stmt:=top 64
def zav:zr ["cell","many","numbers","rest","mixed","k"] ["cell","many"] (ze zcU):=L2.fsc (by decide+kernel)
abbrev zeQ:Stmt:=top 65
def zjM:zr ["number","twin"] ["number","twin"] (ze zeQ):=L2.fsc (by decide+kernel)
abbrev zdc:Stmt:=top 66
def zii:zr ["number","twin"] ["number","twin"] (ze zdc):=L2.fsc (by decide+kernel)
def znJ (K:QA):Sp:=λvs H Q _=>∃(a:Addr) (ns:List Int) (k:Int),vs=[.ref a,.int k]/\SqL K H a (ns.map V.int)/\0<=k/\∀c:Int,Q (.int c) H
def ziF:Sp:=λvs H Q _=>∃(c:Int) (m:Nat),vs=[.int c,.int (m:Int)]/\m<=100/\∀(r:Addr) (xs:List Int) (H':Hp),Same H H'->H' r=some (.lst (xs.map V.int))->xs.length=m->(∀x∈xs,0<=x)->Q (.ref r) H'
def kTh:Key->Th
 | .inl i=>.int i
 | .inr x=>.str x
def zjt (H:Hp)(k:Key):Rep H (kTh k) (kV k):=by
 cases k with
 | inl i=>exact .int i
 | inr x=>exact .str x
def zjX:Sp:=λvs H Q _=>∃(n tw:Int),vs=[.int n,.int tw]/\(tw=0\/tw=1)/\∀(k:Key) (H':Hp),Same H H'->KeyT (kTh k)->Q (kV k) H'
def ziz:Sp:=λvs H Q _=>∃(n tw:Int),vs=[.int n,.int tw]/\(tw=0\/tw=1)/\∀(t:Th) (v:V) (H':Hp),Same H H'->Rep H' t v->KeyT t->Q v H'
def zfH {i:Int}(h0: -(10 ^ 30)<=i)(h1:i<=10 ^ 30):KeyT (.int i):=⟨⟨h0,h1⟩,Nat.zero_le _,by show(1:Nat)<=10;decide,by intro z;cases z⟩
def zlf {x:Str}(h:zkx x):KeyT (.str x):=⟨h,Nat.zero_le _,by show(1:Nat)<=10;decide,by intro z;cases z⟩
abbrev NsAB:List V:=[.int NA,.int NB]
def zmK {tw:Int}(h:tw=0\/tw=1):∃i:Int,atI NsAB tw=some (.int i)/\ -(10 ^ 30)<=i/\i<=10 ^ 30:=by
 rcases h with rfl | rfl
 ·exact⟨NA,rfl,by decide,by decide⟩
 ·exact⟨NB,rfl,by decide,by decide⟩
def zhO {a b:Nat}{r:Int}(h0:0<=r)(h1:r < 2):∃c,atI [a,b] r=some c/\(c=a\/c=b):=by
 rcases(show r=0\/r=1 by omega) with rfl | rfl
 ·exact⟨a,rfl,.inl rfl⟩
 ·exact⟨b,rfl,.inr rfl⟩
section
variable {P:Program}{w:World}{K:QA}{mg:QB}{base:Heap}
def zjT (D:Dfn K mg "_law_cell_at" zcz ["script","k"]) (zR:mg "len" =none):Fn P w K mg base "_law_cell_at" 1 ["script","k"] (znJ K):=by
 refine D.ok (k:=0) zgx (λvs H Q E h=>?_) (λf cdv A outer s H vs Q E hr h=>?_)
 ·obtain⟨a,ns,k,rfl,_⟩:=h;rfl
 obtain⟨a,ns,k,rfl,hS,h0,q⟩:=h;refine⟨_,(zb (zN (zB ziD (pv 1) (zF (zT) (by rfl) zR (by rfl) (za (pv 0) zc)) (zA _))
 (zd (zq (zH zaL (pv 0) (pv 1) (λ_ _=>rfl))))
 zy)
 (zd (zq zo))),?_⟩
 refine⟨_,rfl,_,rfl,a,_,rfl,.inl hS,_,_,rfl,rfl,_,rfl,?_⟩;refine ifB (λc=>?_) (λc=>?_)
 ·have c':k < (((ns.map V.int).length:Nat):Int):=Ju c;rw[List.length_map] at c';have hk:k.toNat < ns.length:=by omega
  have ek:k=((k.toNat:Nat):Int):=by omega
  have q1:atI (ns.map V.int) ((k.toNat:Nat):Int)=some (.int ns[k.toNat]):=zfP (by rw[List.getElem?_map,List.getElem?_eq_getElem hk] <;> rfl);rw[<-ek] at q1;exact⟨_,rfl,_,rfl,a,_,_,_,rfl,rfl,hS,q1,q _⟩
 ·exact q _
def zmb (D:Dfn K mg "_law_turned" zcU ["cell","many"]) (zbO:mg "range" =none):Fn P w K mg base "_law_turned" 1 ["cell","many"] ziF:=by
 refine D.ok (k:=0) zav (λvs H Q E h=>?_) (λf cdv A outer s H vs Q E hr h=>?_)
 ·obtain⟨c,m,rfl,_⟩:=h;rfl
 obtain⟨c,m,rfl,hm,q⟩:=h;refine⟨_,(zb (zu (i:=2) zav.nd rfl (Or.inl rfl) (za0 zc))
 (zb (zu (i:=3) zav.nd rfl (Or.inl rfl) (pv 0))
 (zb (zu (i:=4) zav.nd rfl (Or.inl rfl) (zG zau (pv 0) zo))
 (zb (za1 PassesOwn.never rfl (zlW rfl zbO (za (pv 1) zc)) (zZ (i:=5) zav.nd rfl (Or.inl rfl))
 (zd (zN (zB zb0 (zG zau (pv 0) zo) zo (zA _))
 (zb (zax (zhi PySem.F.plainAttrs_list PySem.F.slot_list_append PySem.F.type_list_append zca (pv 2) (za (zG zau (zG zaA (pv 3) zo) zo) zc)))
 (zd (zu (i:=3) zav.nd rfl (Or.inl rfl) (zG zaA (pv 3) zo))))
 (zb (zu (i:=4) zav.nd rfl (Or.inl rfl) (zG zau (zG zbA (zG zbA (zG zhI (pv 4) (pv 4)) (zG zhI zo (pv 5))) zo) zo))
 (zd (zax (zhi PySem.F.plainAttrs_list PySem.F.slot_list_append PySem.F.type_list_append zca (pv 2) (za (zG zaA (pv 4) zo) zc))))))))
 (zd (zq (pv 2))))))),?_⟩
 refine⟨szl (show 0<=1000 by decide),λr hr0=>?_⟩;have b0:0<=c % 2305843009213693951:=Jt _ (by decide);have b1:c % 2305843009213693951 < 2305843009213693951:=Jo _ (by decide);refine⟨_,rfl,_,rfl,_,_,rfl,rfl,(show(0:Int) < 2305843009213693951 by decide),?_⟩;refine⟨_,rfl,_,rfl,by omega+splitNatSub,by omega+splitNatSub,?_⟩;refine zl2 (n:=((m:Nat):Int).toNat) (λi σ H'=>∃(rest mx:Int) (xs:List Int) (kk:Option V),σ=[some (.int c),some (.int (m:Int)),some (.ref r),some (.int rest),some (.int mx),kk]/\0<=mx/\mx < 2305843009213693951/\Same H H'/\H' r=some (.lst (xs.map V.int))/\xs.length=i/\∀x∈xs,0<=x) ⟨c,_,[],_,rfl,b0,b1,zv (Same.refl H) hr0,zg,rfl,λx h=>by cases h⟩ ?_ ?_
 ·rintro i σ H1 hi ⟨rest,mx,xs,kk,rfl,m0,m1,sm,er,hl,hx⟩;have hlen:(xs.map V.int).length < sizeLine:=Jg (show(xs.map V.int).length < 1000 by rw[List.length_map];omega) (szl (Jb _));have pos:∀u:Int,0<=u->∀x∈xs++ [u],0<=x:=λu hu x h=>by
   rcases List.mem_append.mp h with h | h
   ·exact hx x h
   ·rw[Ji.mp h];exact hu
  refine⟨_,rfl,_,_,rfl,rfl,(show(0:Int) < 2 by decide),rfl,_,rfl,?_⟩;refine ifB (λcc=>?_) (λcc=>?_)
  ·refine⟨_,rfl,.inl ⟨rfl,_,SqL.of er⟩,_,rfl,_,_,rfl,rfl,⟨by decide,by decide+kernel⟩,_,_,rfl,rfl,(show(0:Int) < 1000 by decide),r,_,_,rfl,rfl,er,hlen,?_⟩;refine⟨_,rfl,_,_,rfl,rfl,⟨by decide,by decide+kernel⟩,?_⟩;exact⟨_,mx,xs++ [rest / 2 % 1000],_,rfl,m0,m1,zbU sm hr0,by rw[zg,List.map_append];rfl,by rw[List.length_append,hl];rfl,pos _ (Jt _ (by decide))⟩
  ·refine⟨_,rfl,_,rfl,_,_,rfl,rfl,.inl ⟨by omega,by omega⟩,_,rfl,_,_,rfl,rfl,.inl ⟨by decide,by decide⟩,_,_,rfl,rfl,_,_,rfl,rfl,_,_,rfl,rfl,(show(0:Int) < 2305843009213693951 by decide),?_⟩;have z0:0<=(mx * mx+1000003 * (0+(i:Int))+77) % 2305843009213693951:=Jt _ (by decide);have z1:(mx * mx+1000003 * (0+(i:Int))+77) % 2305843009213693951 < 2305843009213693951:=Jo _ (by decide);refine⟨_,rfl,.inl ⟨rfl,_,SqL.of er⟩,_,rfl,_,_,rfl,rfl,⟨by decide,by decide+kernel⟩,r,_,_,rfl,rfl,er,hlen,?_⟩;exact⟨_,_,xs++ [_],_,rfl,z0,z1,zbU sm hr0,by rw[zg,List.map_append];rfl,by rw[List.length_append,hl];rfl,pos _ (Int.ediv_nonneg z0 (by decide))⟩
 ·rintro σ H1 ⟨rest,mx,xs,kk,rfl,m0,m1,sm,er,hl,hx⟩;exact⟨_,rfl,q r xs H1 sm er hl hx⟩
def mulk {r:Int}(h0:0<=r)(h1:r < 3)(c:Nat)(hc:Sign c):(mulS (Str.ofString "k") (1+r)).length+1<=1000/\zkx (mulS (Str.ofString "k") (1+r)++(⟨#[c]⟩:Str)):=by
 have key:∀x:Str,x.length<=10->(∀d∈x.cps.toList,Sign d)->x.length+1<=1000/\zkx (x++(⟨#[c]⟩:Str)):=λx hx hs=>⟨by omega,by rw[zfs];show x.length+1<=60;omega,λd hd=>by
  rw[zkO] at hd;rcases List.mem_append.mp hd with hd | hd
  ·exact hs d hd
  ·rw[Ji.mp hd];exact hc⟩
 rcases(show r=0\/r=1\/r=2 by omega) with rfl | rfl | rfl <;> exact key _ (by decide+kernel) (by decide+kernel)
def zo5 (D:Dfn K mg "_law_key" zeQ ["number","twin"]):Fn P w K mg base "_law_key" 1 ["number","twin"] zjX:=by
 refine D.ok (k:=0) zjM (λvs H Q E h=>?_) (λf cdv A outer s H vs Q E hr h=>?_)
 ·obtain⟨n,tw,rfl,_⟩:=h;rfl
 obtain⟨n,tw,rfl,ht,q⟩:=h;refine⟨_,(zb (zN (zB zb0 (zG zau (pv 0) zo) zo (zA _))
 (zd (zq (zH zaL (za0 (za zo (za (zcN zbB zo) zc))) (pv 1) (λ_ _=>rfl))))
 zy)
 (zb (zN (zB zb0 (zG zau (pv 0) zo) zo (zA _))
 (zd (zq (zG zgi (zG zoZ zam (zG zbA zo (zG zau (zG zaA (pv 0) zo) zo))) (zH zms zam (zG zau (zG zaA (pv 0) zo) zo) (λ_ _=>rfl)))))
 zy)
 (zd (zq (zG zeS (zG zau (zG zaA (pv 0) zo) zo) zo))))),?_⟩
 refine⟨_,rfl,_,_,rfl,rfl,(show(0:Int) < 5 by decide),rfl,_,rfl,?_⟩;refine ifB (λc=>?_) (λc=>?_)
 ·obtain⟨i,ei,i0,i1⟩:=zmK ht;refine⟨_,rfl,szl (show 2<=1000 by decide),λp hp=>?_⟩;exact⟨_,rfl,p,_,_,_,rfl,rfl,SqL.of zg,ei,q (.inl i) _ (zv (Same.refl H) hp) (zfH i0 i1)⟩
 refine⟨_,rfl,_,_,rfl,rfl,(show(0:Int) < 5 by decide),rfl,_,rfl,?_⟩;refine ifB (λc=>?_) (λc=>?_)
 ·have a0:0<=n / 5 % 3:=Jt _ (by decide);have a1:n / 5 % 3 < 3:=Jo _ (by decide);have b0:0<=n / 15 % 2:=Jt _ (by decide);have b1:n / 15 % 2 < 2:=Jo _ (by decide);obtain⟨d,ed,hd⟩:=zhO (a:=97) (b:=98) b0 b1;have sd:Sign d:=by rcases hd with rfl | rfl <;> decide
  obtain⟨m1,m2⟩:=mulk a0 a1 d sd;refine⟨_,rfl,_,_,rfl,rfl,⟨by decide,by decide+kernel⟩,_,_,rfl,rfl,(show(0:Int) < 3 by decide),_,_,rfl,rfl,_,_,rfl,rfl,by omega,by omega,by decide+kernel,by omega,?_⟩;refine⟨_,rfl,_,_,rfl,rfl,⟨by decide,by decide+kernel⟩,_,_,rfl,rfl,(show(0:Int) < 2 by decide),_,_,d,rfl,rfl,szl (by decide+kernel),ed,_,_,rfl,rfl,szl m1,?_⟩;exact q (.inr _) H (Same.refl H) (zlf m2)
 ·have a0:0<=n / 5 % 14:=Jt _ (by decide);have a1:n / 5 % 14 < 14:=Jo _ (by decide);exact⟨_,rfl,_,_,rfl,rfl,⟨by decide,by decide+kernel⟩,_,_,rfl,rfl,(show(0:Int) < 14 by decide),_,_,rfl,rfl,q (.inl _) H (Same.refl H) (zfH (by omega) (by omega))⟩
def zmR {i j:Int}(i0: -(10 ^ 30)<=i)(i1:i<=10 ^ 30)(j0: -(10 ^ 30)<=j)(j1:j<=10 ^ 30):KeyT (.tup [.int i,.int j,.str (Str.ofString "x")]):=
 ⟨⟨show(3:Nat)<=40 by decide,⟨i0,i1⟩,⟨j0,j1⟩,⟨by decide+kernel,by decide+kernel⟩,trivial⟩,show(1:Nat)<=3 by decide,show(4:Nat)<=10 by decide,by intro z;cases z⟩
def znB {i j:Int}(i0: -(10 ^ 30)<=i)(i1:i<=10 ^ 30)(j0: -(10 ^ 30)<=j)(j1:j<=10 ^ 30):KeyT (.tup [.int i,.int j]):=
 ⟨⟨show(2:Nat)<=40 by decide,⟨i0,i1⟩,⟨j0,j1⟩,trivial⟩,show(1:Nat)<=3 by decide,show(3:Nat)<=10 by decide,by intro z;cases z⟩
def zlH (D:Dfn K mg "_law_worth" zdc ["number","twin"]):Fn P w K mg base "_law_worth" 1 ["number","twin"] ziz:=by
 refine D.ok (k:=0) zii (λvs H Q E h=>?_) (λf cdv A outer s H vs Q E hr h=>?_)
 ·obtain⟨n,tw,rfl,_⟩:=h;rfl
 obtain⟨n,tw,rfl,ht,q⟩:=h;refine⟨_,(zb (zN (zB zb0 (zG zau (pv 0) zo) zo (zA _))
 (zd (zq (zH zaL (za0 (za zo (za (zcN zbB zo) zc))) (pv 1) (λ_ _=>rfl))))
 zy)
 (zb (zN (zB zb0 (zG zau (pv 0) zo) zo (zA _))
 (zd (zq (zbj (za (zG zau (zG zaA (pv 0) zo) zo) (za (zH zaL (za0 (za zo (za (zcN zbB zo) zc))) (pv 1) (λ_ _=>rfl)) (za zam zc))))))
 zy)
 (zb (zN (zB zb0 (zG zau (pv 0) zo) zo (zA _))
 (zd (zq (zG zgi zam (zH zms zam (zG zau (zG zaA (pv 0) zo) zo) (λ_ _=>rfl)))))
 zy)
 (zd (zq (zG zau (zG zaA (pv 0) zo) zo)))))),?_⟩
 obtain⟨i,ei,i0,i1⟩:=zmK ht;refine⟨_,rfl,_,_,rfl,rfl,(show(0:Int) < 4 by decide),rfl,_,rfl,?_⟩;refine ifB (λc=>?_) (λc=>?_)
 ·refine⟨_,rfl,szl (show 2<=1000 by decide),λp hp=>?_⟩;exact⟨_,rfl,p,_,_,_,rfl,rfl,SqL.of zg,ei,q (.int i) _ _ (zv (Same.refl H) hp) (.int i) (zfH i0 i1)⟩
 refine⟨_,rfl,_,_,rfl,rfl,(show(0:Int) < 4 by decide),rfl,_,rfl,?_⟩;refine ifB (λc=>?_) (λc=>?_)
 ·have a0:0<=n / 4 % 9:=Jt _ (by decide);have a1:n / 4 % 9 < 9:=Jo _ (by decide);refine⟨_,rfl,_,_,rfl,rfl,⟨by decide,by decide+kernel⟩,_,_,rfl,rfl,(show(0:Int) < 9 by decide),_,rfl,szl (show 2<=1000 by decide),λp hp=>?_⟩;refine⟨_,rfl,p,_,_,_,rfl,rfl,SqL.of zg,ei,szl (show 3<=1000 by decide),λp2 hp2=>?_⟩;exact q _ _ _ (zv (zv (Same.refl H) hp) hp2) ((RepL.cons (.int _) (.cons (.int i) (.cons (.str _) .nil))).new hp2) (zmR (by omega) (by omega) i0 i1)
 refine⟨_,rfl,_,_,rfl,rfl,(show(0:Int) < 4 by decide),rfl,_,rfl,?_⟩;refine ifB (λc=>?_) (λc=>?_)
 ·have b0:0<=n / 4 % 2:=Jt _ (by decide);have b1:n / 4 % 2 < 2:=Jo _ (by decide);obtain⟨d,ed,hd⟩:=zhO (a:=99) (b:=100) b0 b1;refine⟨_,rfl,_,_,rfl,rfl,⟨by decide,by decide+kernel⟩,_,_,rfl,rfl,(show(0:Int) < 2 by decide),_,_,d,rfl,rfl,szl (by decide+kernel),ed,_,_,rfl,rfl,szl (show 1+1<=1000 by decide),?_⟩;refine q (.str _) _ H (Same.refl H) (.str _) (zlf ⟨by rw[zfs];show(1:Nat)+1<=60;decide,λe he=>?_⟩);rw[zkO] at he;rcases List.mem_append.mp he with he | he
  ·rw[Ji.mp he];decide
  ·rw[Ji.mp he];rcases hd with rfl | rfl <;> decide
 ·have a0:0<=n / 4 % 50:=Jt _ (by decide);have a1:n / 4 % 50 < 50:=Jo _ (by decide);exact⟨_,rfl,_,_,rfl,rfl,⟨by decide,by decide+kernel⟩,_,_,rfl,rfl,(show(0:Int) < 50 by decide),q (.int _) _ H (Same.refl H) (.int _) (zfH (by omega) (by omega))⟩
end
end Pv
namespace L2
open PySem PySem.Spec PyProof.Rows
def zjK {lo st:Int}{n:Nat}{g:TG}{tb:TS}{D:Ends}{σ:St}{H:Hp}(Pv:Nat->St->Hp->Prop)(h0:Pv 0 σ H)
  (hs:∀i σ H,i < n->Pv i σ H->g (.int (lo+i * st)) σ H fun σ2 H2=>tb {D with nx:=Pv (i+1),ct:=Pv (i+1),bk:=D.nx} σ2 H2) (hd:∀σ H,Pv n σ H->D.nx σ H):
  ∃W:Nat->Nat->St->Hp->Prop,(∃m,W 0 m σ H)/\∀i m σ H,W i m σ H->
   ((Itrs lo st n).stop i H/\D.nx σ H)\/((Itrs lo st n).go i H/\∃N:St->Hp->Prop,(∀σ' H',N σ' H'->∃m',m' < m/\W (i+1) m' σ' H')/\∀x H',(Itrs lo st n).yld i H x H'->g x σ H' fun σ2 H2=>tb {D with nx:=N,ct:=N,bk:=D.nx} σ2 H2):=by
 refine⟨λi m σ H=>m=n - i/\i<=n/\Pv i σ H,⟨n,by simp,Nat.zero_le _,h0⟩,?_⟩;rintro i m σ H ⟨rfl,hi,p⟩;by_cases hlt:i < n
 ·refine .inr ⟨hlt,Pv (i+1),fun σ' H' p'=>⟨n - (i+1),by omega,rfl,hlt,p'⟩,λx H' y=>?_⟩;obtain⟨e,y⟩:=y;subst e y;exact hs i σ _ hlt p
 ·have e:i=n:=by omega
  subst e;exact .inl ⟨Jb _,hd σ H p⟩
end L2
namespace Pv
open PySem L2
open Tr
abbrev zde:Stmt:=top 69
def zaX:zr ["keeper","pairs","numbers","twin","root","k","key"] ["keeper","pairs","numbers","twin"] (ze zde):=L2.fsc (by decide+kernel)
def zkL {VR:VRT}{CN CB CC a:Addr}{D:QO}{H:Hp}{E:XK}(cl:Cl CC E)(u t:Th)(s:Vst):OutE VR CN CB CC a D H E (.clash u t) s:=λx v1 v2 H' _ _ r1 r2 g1 g2 ne sn ex=>cl u t v1 v2 H' x r1 r2 g1 g2 ne sn ex
def VS.updD {C a d pd:Addr}{H:Hp}{cs:QF}{kvs kvs':QG}(v:VS H C a d cs)(e:H pd=some (.dK kvs))(n:d≠pd):VS (upd H pd (.dK kvs')) C a d cs:=by obtain⟨kv,⟨⟨dx,fs,eo,fl⟩,ed⟩,dr⟩:=v.vo;exact⟨⟨kv,⟨⟨dx,fs,by rw[zk (za4 eo e (by intro z;cases z))];exact eo,fl⟩,by rw[zk n];exact ed⟩,dr.keep (Tups.upd λxs z=>by rw[e] at z;cases z)⟩,v.gc⟩
def VK.updD {C a d pd:Addr}{H:Hp}{s:Vst}{kvs kvs':QG}(v:VK C H a [d] s)(e:H pd=some (.dK kvs))(n:d≠pd):VK C (upd H pd (.dK kvs')) a [d] s:=by obtain⟨d',ed,vs⟩:=v.vs;cases ed;exact⟨⟨d,rfl,vs.updD e n⟩,v.kp,v.rm⟩
structure zmw (C:Addr)(H:Hp)(a d:Addr)(st:Vst)(T:Tr):Prop where
 vk:VK C H a [d] st
 tk:TOk st.all T
 so:Srt T.ps
def zkR (C CC:Addr):Sp:=λvs H Q E=>∃(a d pd pn:Addr) (xs:List Int) (tw:Int),vs=[.ref a,.ref pd,.ref pn,.int tw]/\VK C H a [d] ⟨[],[],[],1000000⟩/\H pd=some (.dK [])/\d≠pd/\H pn=some (.lst (xs.map V.int))/\xs.length=42/\(∀x∈xs,0<=x)/\(tw=0\/tw=1)/\Cl CC E/\
 ∀(T:Tr) (st:Vst) (H':Hp),Frm [d,pd] H H'->zmw C H' a d st T->T.cnt<=14->950000<=st.n->Q (.int T.root) H'
section
variable {P:Program}{w:World}{K:QA}{mg:QB}{base:Heap}{C CC CN CB:Addr}
def zmC (D:Dfn K mg "_law_grown" zde ["keeper","pairs","numbers","twin"]) (zfg:Fn P w K mg base "_law_key" 1 ["number","twin"] zjX) (zi7:Fn P w K mg base "_law_worth" 1 ["number","twin"] ziz) (zom:FnX P w K mg base "put" 23 ["vault","root","key","worth"] (zhX (VK C) CN CB CC)) (zrO:FnX P w K mg base "cut" 23 ["vault","root","key"] (zjw (VK C) CN CB CC)) (zR:mg "len" =none) (zbO:mg "range" =none):
  FnX P w K mg base "_law_grown" 24 ["keeper","pairs","numbers","twin"] (zkR C CC):=by
 refine D.okX (k:=23) zaX (λvs H Q E h=>?_) (λf cdv A outer s H vs Q E hr h=>?_)
 ·obtain⟨a,d,pd,pn,xs,tw,rfl,_⟩:=h;rfl
 obtain⟨a,d,pd,pn,xs,tw,rfl,vk,epd,nd,epn,hl,hx,ht,cl,q⟩:=h;refine⟨_,(zb (zu (i:=4) zaX.nd rfl (Or.inl rfl) zo)
 (zb (za1 PassesOwn.leaving rfl (zha rfl zbO (za zo (za (zG zeS (zF (zT) (by rfl) zR (by rfl) (za (pv 2) zc)) zo) (za zo zc)))) (zZ (i:=5) zaX.nd rfl (Or.inl rfl))
 (zb (zu (i:=6) zaX.nd rfl (Or.inl rfl) (zK zfg hr (by omega) (by rfl) (za (zH zaL (pv 2) (pv 5) (λ_ _=>rfl)) (za (pv 3) zc))))
 (zd (zN (zB zb0 (zG zau (zH zaL (pv 2) (zG zbA (pv 5) zo) (λ_ _=>rfl)) zo) zo (zA _))
 (zb (zax (zn2 (pv 1) (pv 6) zch ⟨by rfl,by rfl,by rfl,by rfl⟩))
 (zd (zu (i:=4) zaX.nd rfl (Or.inl rfl) (zaP zrO hr (by omega) (by rfl) zL (za (pv 0) (za (pv 4) (za (pv 6) zc)))))))
 (zb (zec (zbv hr) (pv 1) (pv 6) (zK zi7 hr (by omega) (by rfl) (za (zH zaL (pv 2) (zG zbA (pv 5) zo) (λ_ _=>rfl)) (za (pv 3) zc))) (by rfl))
 (zd (zu (i:=4) zaX.nd rfl (Or.inl rfl) (zaP zom hr (by omega) (by rfl) zL (za (pv 0) (za (pv 4) (za (pv 6) (za (zcu (zbv hr) (pv 1) (pv 6) (λ_ _=>rfl)) zc))))))))))))
 (zd (zq (pv 4))))),?_⟩
 have hml:(xs.map V.int).length=42:=by rw[List.length_map,hl]
 refine⟨_,rfl,pn,_,rfl,.inl (SqL.of epn),_,_,rfl,rfl,?_⟩;have at_:∀z:Int,0<=z->z < 42->∃n,atI (xs.map V.int) z=some (.int n)/\0<=n:=λz z0 z1=>by
  have hz:z.toNat < xs.length:=by omega
  have ez:z=((z.toNat:Nat):Int):=by omega
  have q1:atI (xs.map V.int) ((z.toNat:Nat):Int)=some (.int xs[z.toNat]):=zfP (by rw[List.getElem?_map,List.getElem?_eq_getElem hz] <;> rfl);rw[<-ez] at q1;exact⟨_,q1,hx _ (Jm hz)⟩
 refine⟨_,_,rfl,by rw[hml];decide,by rw[hml];decide,by decide,by decide,?_⟩
 rw[hml];have n14:((((42:Nat):Int) - 2+3 - 1) / 3).toNat=14:=by decide
 refine zjK (n:=((((42:Nat):Int) - 2+3 - 1) / 3).toNat) (λi σ H'=>∃(T:Tr) (st:Vst) (kvs:QG) (k5 k6:Option V),σ=[some (.ref a),some (.ref pd),some (.ref pn),some (.int tw),some (.int T.root),k5,k6]/\zmw C H' a d st T/\H' pd=some (.dK kvs)/\kvs.length<=i/\T.cnt<=i/\1000000<=st.n+3000 * i/\Frm [d,pd] H H')
  ⟨nil,_,[],_,_,rfl,⟨vk,TOk.nil,List.Pairwise.nil⟩,epd,Jb _,Jb _,Jb _,Frm.refl⟩ ?_ ?_
 ·rintro i σ H1 hi ⟨T,st,kvs,k5,k6,rfl,⟨vk1,tk,so⟩,ek,hk,hc,hn,fr⟩;rw[n14] at hi;have npn:pn∉ [d,pd]:=λz=>by
   simp only[List.mem_cons,List.not_mem_nil,or_false] at z;rcases z with z | z
   ·exact(vi_K C).not vk epn (by intro kv z;cases z) (Ji.mpr z)
   ·rw[z,epd] at epn;cases epn
  obtain⟨n1,a1,p1⟩:=at_ (0+(i:Int) * 3) (by omega) (by omega)
  obtain⟨n2,a2,p2⟩:=at_ (0+(i:Int) * 3+2) (by omega) (by omega)
  obtain⟨n3,a3,p3⟩:=at_ (0+(i:Int) * 3+1) (by omega) (by omega)
  refine⟨_,rfl,_,rfl,pn,_,_,_,rfl,rfl,SqL.of (fr.at epn npn),a1,_,rfl,n1,tw,rfl,ht,λk H2 s2 kt=>?_⟩;have fr2:Frm [d,pd] H H2:=fr.trans (Frm.of s2);have vk2:=(vi_K C).same vk1 s2;have ek2:=s2 _ _ ek;have klen:kvs.length < sizeLine:=Jg (show kvs.length < 1000 by omega) (szl (Jb _));refine⟨_,rfl,_,rfl,_,_,rfl,rfl,pn,_,_,_,rfl,rfl,SqL.of (fr2.at epn npn),a2,_,_,rfl,rfl,(show(0:Int) < 5 by decide),rfl,_,rfl,?_⟩;refine ifB (λc=>?_) (λc=>?_)
  ·refine zga (fun σ H'=>σ=[some (.ref a),some (.ref pd),some (.ref pn),some (.int tw),some (.int T.root),some (.int (0+(i:Int) * 3)),some (kV k)]/\VK C H' a [d] st/\Frm [d,pd] H H'/\∃kv',H' pd=some (.dK kv')/\kv'.length<=i) (λN hN=>?_) ?_
   ·refine⟨_,rfl,pd,rfl,.inl ⟨_,.inl ek2⟩,_,rfl,kvs,k,ek2,rfl,λv ev=>?_,λev=>?_⟩
    ·have:=zgr kvs k;exact hN _ _ ⟨rfl,vk2.updD ek2 nd,fr2.trans (Frm.upd (by simp)),_,zg,by omega⟩
    ·exact hN _ _ ⟨rfl,vk2,fr2,_,ek2,hk⟩
   ·rintro σ H3 ⟨rfl,vk3,fr3,kv',ek3,hk3⟩;refine⟨_,rfl,_,rfl,_,rfl,a,[d],st,T.root,kTh k,kV k,rfl,vk3,zjt H3 k,Jk kt.dp (by decide),zqB (A:=λ_=>True) (zkL cl) tk (by omega) (λ_ _=>trivial) (λ_ _=>trivial) λs4 g4 i4 v4 H4 f4 vk4 ev4=>?_⟩;have ev4':v4=.int (cutT (kTh k) T).root:=ev4;subst ev4';have ep:=zqJ (x:=kTh k) so;have gn:=g4.n;have cl':(cutT (kTh k) T).cnt<=T.cnt:=by show(cutT (kTh k) T).ps.length<=T.ps.length;rw[ep];exact List.length_filter_le _ _
    have npd:pd∉ [d]:=λz=>nd (Ji.mp z).symm;refine⟨cutT (kTh k) T,s4,kv',_,_,rfl,⟨vk4,⟨i4,λp hp=>tk.ky p ?_,by have:=tk.ct;omega⟩,?_⟩,f4 _ _ npd ek3,by omega,by omega,by omega,fr3.trans (Frm.mono f4 (by simp))⟩
    ·rw[ep] at hp;exact(Jz.mp hp).1
    ·rw[ep];exact List.Pairwise.filter _ so
  ·refine⟨_,rfl,_,rfl,_,_,rfl,rfl,pn,_,_,_,rfl,rfl,SqL.of (fr2.at epn npn),a3,_,rfl,n3,tw,rfl,ht,λu v H3 s3 ru ku=>?_⟩;have ek3:=s3 _ _ ek2;refine⟨_,rfl,_,rfl,pd,_,rfl,DPut.k ek3 klen,?_⟩;have vk4:VK C (upd H3 pd (.dK (putK kvs k v))) a [d] st:=((vi_K C).same vk2 s3).updD ek3 nd;have ru4:=ru.keep (Tups.upd (H:=H3) (p:=pd) (o:=.dK (putK kvs k v)) λxs z=>by rw[ek3] at z;cases z);have fr4:Frm [d,pd] H (upd H3 pd (.dK (putK kvs k v))):=(fr2.trans (Frm.of s3)).trans (Frm.upd (by simp));have ek4:upd H3 pd (.dK (putK kvs k v)) pd=some (.dK (putK kvs k v)):=zg;have pl:=zdh kvs k v;generalize upd H3 pd (.dK (putK kvs k v))=H4 at vk4 ru4 fr4 ek4;have dg:DGet H4 pd (kV k) (some v):=by have:=DGet.k (k:=k) ek4;rw[zoc,if_pos rfl] at this;exact this
   refine⟨_,rfl,_,rfl,_,rfl,_,rfl,_,rfl,pd,v,rfl,dg,a,[d],st,T.root,kTh k,u,kV k,v,rfl,vk4,zjt H4 k,kt.good,ru4,zm7 (A:=λ_=>True) (zkL cl) tk (by omega) kt ku (by omega) (λ_ _=>trivial) λs5 g5 i5 v5 H5 f5 vk5 ev5=>?_⟩;have ev5':v5=.int (Tr.putT (kTh k) u T).root:=ev5;subst ev5';have ep:=zqa (x:=kTh k) (w:=u) so;have il:=zpv (ps:=T.ps) (x:=kTh k) (w:=u);have gn:=g5.n;have cl':(Tr.putT (kTh k) u T).cnt<=T.cnt+1:=by show(Tr.putT (kTh k) u T).ps.length<=_;rw[ep];exact il
   have npd:pd∉ [d]:=λz=>nd (Ji.mp z).symm;refine⟨Tr.putT (kTh k) u T,s5,_,_,_,rfl,⟨vk5,⟨i5,λp hp=>?_,by omega⟩,by rw[ep];exact zo6 so⟩,f5 _ _ npd ek4,by omega,by omega,by omega,fr4.trans (Frm.mono f5 (by simp))⟩;rw[ep] at hp;rcases zpa hp with hp | hp
   ·exact tk.ky p hp
   ·rw[hp];exact⟨kt,ku⟩
 ·rintro σ H1 ⟨T,st,kvs,k5,k6,rfl,g,ek,hk,hc,hn,fr⟩;rw[n14] at hc hn;exact⟨_,rfl,q T st H1 fr g hc (by omega)⟩
end
end Pv
namespace Pv
open PySem L2
abbrev zcB:Stmt:=top 71
def zgI:zr ["one"] ["one"] (ze zcB):=L2.fsc (by decide+kernel)
abbrev zdU:Stmt:=top 72
def zdu:zr ["keeper","other","one"] ["keeper"] (ze zdU):=L2.fsc (by decide+kernel)
theorem zlI {ts:List Th}{i:Nat}(h:i < ts.length):za7 (ts.take (i+1))=za7 (ts.take i)++ [zaj ts[i]]:=by rw[List.take_add_one,List.getElem?_eq_getElem h];exact zgF _ _
def zn7 (n:Nat):Sp:=λvs H Q _=>∃(t:Th) (v:V),vs=[v]/\Rep H t v/\Wf t/\dep t < n/\dep t<=8/\∀v' H',Same H H'->Rep H' (zaj t) v'->Q v' H'
def zdF {C x dx:Addr}{H:Hp}{Z:Hp->Prop}{E:XK}(hx:H x=none)(hdx:H dx=none)(n:dx≠x)(q:∀d H',Same H H'->H d=none->VS H' C x d []->Z H'):
  zcv C [.ref x] (upd (upd H dx (.own x)) x (.ins C dx [])) (λv H2=>v=.non/\Z H2) E:=by
 refine⟨x,dx,rfl,zg,λd hd=>⟨rfl,?_⟩⟩;have xd:x≠d:=λz=>by rw[<-z,zg] at hd;cases hd
 have dd:dx≠d:=λz=>by rw[<-z,zk n,zg] at hd;cases hd
 have hd0:H d=none:=by rw[zk (Ne.symm xd),zk (Ne.symm dd)] at hd;exact hd
 refine q d _ (λb o e=>?_) hd0 ⟨⟨[],⟨⟨dx,_,zg,zmT d⟩,by rw[zk (Ne.symm xd)];exact zg⟩,.nil⟩,GoodC.nil⟩;have n1:=zm e hx;rw[zk n1,zk (zm e hd0),zk n1,zk (zm e hdx)];exact e
theorem zc2 {ts:List Th}(nt:zfm ts):∀i,i<=ts.length->Held (zJ (ts.take i)) (ts.take i)
 | 0,_=>λt h=>by cases h
 | i+1,hi=>λt ht=>by
  have hil:i < ts.length:=by omega
  rw[List.take_add_one,List.getElem?_eq_getElem hil] at ht;rw[zaD hil];rcases List.mem_append.mp ht with ht | ht
  ·exact zaY (zc2 nt i (by omega) t ht)
  ·have e:t=ts[i]:=by simpa using ht
   subst e;exact zar (zcW nt hil)
def zag {cs:QF}{ns:List Int}(g:GoodC cs)(hp:ns.Perm (cs.map (·.1))){t:Th}:t∈zw cs ns↔zf cs (zj t)=some t:=by
 unfold zw;constructor
 ·intro h;obtain⟨n,hn,e⟩:=List.mem_map.mp h;obtain⟨u,eu⟩:=zdC (hp.subset hn);rw[eu] at e;have e':u=t:=e;subst e';rw[(g.dep eu).2];exact eu
 ·intro h;refine List.mem_map.mpr ⟨zj t,hp.symm.subset (List.mem_map.mpr ⟨_,zcb h,rfl⟩),?_⟩;rw[h];rfl
def zc3 {cs:QF}{ns:List Int}(g:GoodC cs)(hp:ns.Perm (cs.map (·.1))):zfm (zw cs ns):=λt ht u hu e=>by have h1:=(zag g hp).mp ht;have h2:=(zag g hp).mp hu;rw[e,h2] at h1;exact(Option.some.inj h1).symm
def zd5 {cs:QF}{ns:List Int}(hp:ns.Perm (cs.map (·.1))):(zw cs ns).length=cs.length:=by unfold zw;rw[List.length_map,hp.length_eq,List.length_map]
theorem zfp {cs:QF}{ns:List Int}(g:GoodC cs)(hp:ns.Perm (cs.map (·.1)))(n:Int):zf (zJ (zw cs ns)) n=zf cs n:=by
 have hh:=zc2 (zc3 g hp) _ (Jb _);rw[List.take_length] at hh;cases z:zf cs n with
 | some u=>have e:=(g.dep z).2;have hu:u∈zw cs ns:=(zag g hp).mpr (by rw[e];exact z);have:=hh u hu;rw[e] at this;exact this
 | none=>
  cases y:zf (zJ (zw cs ns)) n with
  | none=>rfl
  | some u=>
   have y':zf (zJ ((zw cs ns).take (zw cs ns).length)) n=some u:=by rw[List.take_length];exact y
   obtain⟨hu,e⟩:=zbT y';have:=(zag g hp).mp hu;rw[e,z] at this;cases this
def zmY (C:Addr):Sp:=λvs H Q _=>∃(a d:Addr) (cs:QF),vs=[.ref a]/\VS H C a d cs/\cs.length<=100000/\∀(b db:Addr) (ks:QF) (H':Hp),Same H H'->H db=none->VS H' C b db ks->(∀n,zf ks n=zf cs n)->ks.length<=cs.length->Q (.ref b) H'
section
variable {P:Program}{w:World}{K:QA}{mg:QB}{base:Heap}{C CC:Addr}
theorem zkX (D:Dfn K mg "_law_twinned" zcB ["one"]) (zt:mg "isinstance" =none) (zay:mg "tuple" =none):
  ∀n:Nat,Fn P w K mg base "_law_twinned" (n+2) ["one"] (zn7 n)
 | 0=>D.never λvs H Q E h=>by obtain⟨t,v,_,_,_,h1,_⟩:=h;omega
 | n+1=>by
  have zbP:=zkX D zt zay n;refine D.ok (k:=n+2) zgI (λvs H Q E h=>?_) (λf cdv A outer s H vs Q E hr h=>?_)
  ·obtain⟨t,v,rfl,_⟩:=h;rfl
  obtain⟨t,v,rfl,rv,wt,d1,d3,q⟩:=h;refine⟨_,(zb (zN (zah (zF (zW) (by rfl) zt (by rfl) (za (pv 0) (za (zaV (v:=.ty "tuple") (by rfl) zay (by rfl) rfl) zc))))
 (zd (zq (ze5 zg4 (by rfl) zay (by rfl) (za (zgD (zV.zero (by rfl) (by decide+kernel) (by decide+kernel) (by decide+kernel) (by rfl)) rfl (zhR (pv 0)) (λ_ _ _=>zeg) (λ_ _ _=>(zK zbP hr (by omega) (by rfl) (za (pv 0) zc)))) zc))))
 zy)
 (zb (zN (zB (zfK hr) (pv 0) zo (zA _))
 (zd (zq (zcN zbB zo)))
 zy)
 (zb (zN (zB (zfK hr) (pv 0) (zcN zbB zo) (zA _))
 (zd (zq zo))
 zy)
 (zd (zq (pv 0)))))),?_⟩
  cases rv with
  | non=>refine⟨_,rfl,_,_,_,_,rfl,.non,rfl,_,rfl,ifF rfl ?_⟩;refine⟨_,rfl,.non,.int NA,.non,.int _,by decide,_,rfl,ifF rfl ?_⟩;exact⟨_,rfl,_,rfl,.non,.int NB,.non,.int _,by decide,_,rfl,ifF rfl ⟨_,rfl,q _ H (Same.refl H) .non⟩⟩
  | str x=>refine⟨_,rfl,_,_,_,_,rfl,.str x,rfl,_,rfl,ifF rfl ?_⟩;refine⟨_,rfl,.str x,.int NA,.str x,.int _,Nat.zero_le _,_,rfl,ifF rfl ?_⟩;exact⟨_,rfl,_,rfl,.str x,.int NB,.str x,.int _,Nat.zero_le _,_,rfl,ifF rfl ⟨_,rfl,q _ H (Same.refl H) (.str x)⟩⟩
  | int i=>
   have q':∀v' H',Same H H'->Rep H' (.int (zgj i)) v'->Q v' H':=q;unfold zgj at q';refine⟨_,rfl,_,_,_,_,rfl,.int i,rfl,_,rfl,ifF rfl ?_⟩;refine⟨_,rfl,.int i,.int NA,.int i,.int _,Nat.zero_le _,_,rfl,?_⟩;refine ifB (λc=>?_) (λc=>?_)
   ·have e:i=NA:=by have:=(za8 _ _).mp c;injection this
    rw[if_pos e] at q';exact⟨_,rfl,q' _ H (Same.refl H) (.int _)⟩
   have n1:i≠NA:=λz=>by rw[z,zaO] at c;cases c
   rw[if_neg n1] at q';refine⟨_,rfl,_,rfl,.int i,.int NB,.int i,.int _,Nat.zero_le _,_,rfl,?_⟩;refine ifB (λc=>?_) (λc=>?_)
   ·have e:i=NB:=by have:=(za8 _ _).mp c;injection this
    rw[if_pos e] at q';exact q' _ H (Same.refl H) (.int _)
   have n2:i≠NB:=λz=>by rw[z,zaO] at c;cases c
   rw[if_neg n2] at q';exact⟨_,rfl,q' _ H (Same.refl H) (.int i)⟩
  | @tup a xs ts e l hh=>
  have dt:dep (.tup ts)=depL ts+1:=rfl;have w1:ts.length<=40:=wt.1;refine⟨_,rfl,_,_,_,_,rfl,.tup e,rfl,_,rfl,ifT rfl ?_⟩;refine⟨_,rfl,a,rfl,⟨_,SqT.of e⟩,λp hp=>?_⟩;refine zdG (n:=xs.length) (λi acc H'=>Same H H'/\H' p=some (.lst acc)/\RepL H' (za7 (ts.take i)) acc/\acc.length=i) ⟨zv (Same.refl H) hp,zg,.nil,rfl⟩ ?_ ?_ ?_ ?_
  ·rintro i acc H' hi ⟨sm,ep,rs,la⟩;exact⟨xs,xs[i],SqT.of (sm _ _ e),List.getElem?_eq_getElem hi⟩
  ·rintro acc H' ⟨sm,ep,rs,la⟩;exact⟨xs,SqT.of (sm _ _ e),Jb _⟩
  ·rintro i acc H' y H'' hi ⟨sm,ep,rs,la⟩ ⟨z1,z2⟩;subst z1;have ey:=z2 xs (SqT.of (sm _ _ e));have hit:i < ts.length:=by omega
   have et:=List.getElem?_eq_getElem hit;have dd:=zck et;refine tt1 ⟨_,rfl,ts[i],y,rfl,(hh i y ts[i] ey et).keep (Same.tups sm),WfL.get wt.2 et,by omega,by omega,λv' H3 s3 ru=>⟨s3 _ _ ep,Jg (show acc.length < 1000 by omega) (szl (Jb _)),nxt hi ⟨zbU (λb o z=>s3 b o (sm b o z)) hp,zg,?_,by rw[List.length_append,la];rfl⟩⟩⟩;have tk:Tups H3 (upd H3 p (.lst (acc++ [v']))):=Tups.upd λxs z=>by rw[s3 _ _ ep] at z;cases z
   rw[zlI hit];exact RepL.snoc (ru.keep tk) ((rs.keep (Same.tups s3)).keep tk)
  ·rintro acc H' ⟨sm,ep,rs,la⟩;rw[l,List.take_length] at rs;refine⟨p,acc,rfl,.inl ⟨SqL.of ep,λr hr'=>?_⟩⟩;exact q _ _ (zv sm hr') (rs.new hr')
def zpg (D:Dfn K mg "_law_copy" zdU ["keeper"]) (zcT:Mkr P w K mg base "Keeper" C 1 ["self"] (zcv C)) (zdy:Mt P w K mg base CX0 C "things" 2 ["self"] (zgb C)) (zcm:Mt P w K mg base (CX1 P w) C "lay" 14 ["self","thing"] (zh8 C CC)) (c_C:Cls K C):Fn P w K mg base "_law_copy" 15 ["keeper"] (zmY C):=by
 refine D.ok (k:=14) zdu (λvs H Q E h=>?_) (λf cdv A outer s H vs Q E hr h=>?_)
 ·obtain⟨a,d,cs,rfl,_⟩:=h;rfl
 obtain⟨a,d,cs,rfl,vs,hc,q⟩:=h;refine⟨_,(zb (zu (i:=1) zdu.nd rfl (Or.inl rfl) (zfM zcT hr (by omega) (by rfl)))
 (zb (za1 PassesOwn.never rfl (zcn (zgE (pv 0) c_C zdy hr (by omega) zdS)) (zZ (i:=2) zdu.nd rfl (Or.inl rfl))
 (zd (zax (zbw (pv 1) c_C zcm hr (by omega) zqk (za (pv 2) zc)))))
 (zd (zq (pv 1))))),?_⟩
 refine λb dx hb hdx nx=>zdF hb hdx nx λdb H1 s1 hdb v1=>?_;have vs1:=vs.same s1;obtain⟨kv,vo,dr⟩:=vs1.vo;obtain⟨⟨dxa,fs,eo,fl⟩,_⟩:=id vo;refine⟨_,rfl,a,dxa,fs,rfl,eo,fl.n4,a,d,kv,cs,rfl,vo,dr,by omega,λl ns xs H2 s2 hl hp hs el rl=>?_⟩;have hg:=vs.gc;have wl:=zd5 (cs:=cs) hp;have wx:=rl.len;have nt:=zc3 hg hp;have wlk:=zfp hg hp;have v2:=v1.same s2;have s02:=s1.trans s2;refine⟨l,rfl,⟨_,SqL.of el⟩,?_⟩;refine zds (xs:=xs) (λi σ H'=>∃(k2:Option V),σ=[some (.ref a),some (.ref b),k2]/\Fr1 db H2 H'/\VS H' C b db (zJ ((zw cs ns).take i))) ⟨_,rfl,Fr1.refl _ _,v2⟩ ?_ ?_ ?_
 ·rintro i σ H' _ ⟨k2,rfl,f1,v3⟩;exact SqL.of (v2.lst f1 el)
 ·rintro i y σ H' hy ⟨k2,rfl,f1,v3⟩;have hil:i < (zw cs ns).length:=by rw[<-wx];exact(List.getElem?_eq_some_iff.mp hy).1
  have ry:=(rl.at i y _ hy (List.getElem?_eq_getElem hil)).keep (v2.tups f1);have gd:Good (zw cs ns)[i]:=(hg.dep ((zag hg hp).mp (Jm hil))).1;have ln:=zbW (zw cs ns) i (by omega);obtain⟨kv3,⟨⟨dx3,fs3,eo3,fl3⟩,_⟩,_⟩:=v3.vo;refine⟨_,rfl,b,dx3,fs3,rfl,eo3,fl3.n2,_,rfl,b,db,_,(zw cs ns)[i],y,rfl,v3,by omega,ry,gd,(λnf=>Jh (zcW nt hil) nf),λH3 f3 ft v4=>?_⟩;exact⟨_,rfl,f1.trans f3,by rw[zaD hil];exact v4⟩
 ·rintro σ H' ⟨k2,rfl,f1,v3⟩;rw[wx,List.take_length] at v3;have ln:=zbW (zw cs ns) _ (Jb _);rw[List.take_length] at ln;exact⟨_,rfl,q b db _ H' (λc o e=>f1 c o (zm e hdb) (s02 c o e)) hdb v3 wlk (by omega)⟩
end
def zoL {K:QA}{l p:Addr}{σ:L2.St}{js:List Nat}{tt:TT}{te:TE}{H1:Hp}{Q:L2.VK}{us:List Th}{xs:QQ}(e1:H1 l=some (.lst xs))(r:RepL H1 us xs)(hp1:H1 p=none)(hn:us.length<=900000)(f:Th->Bool)
  (tt_ok:∀(v:V) (u:Th) (H':Hp) (Z:Bool->Hp->Prop),u∈us->Same H1 H'->Rep H' u v->(∀H'',Same H' H''->Z (f u) H'')->tt (some v::frees σ js) H' Z)
  (te_ok:∀(v:V) (H':Hp) (Z:L2.VK),Z v H'->te (some v::frees σ js) H' Z) (q:∀acc H',Same H1 H'->H' p=some (.lst acc)->RepL H' (us.filter f) acc->Q (.ref p) H'):zkU (Itl K l) p σ js tt te H1 Q:=by
 have hxl:xs.length=us.length:=r.len;refine zdG (n:=xs.length) (λi acc H=>Same H1 H/\H p=some (.lst acc)/\RepL H ((us.take i).filter f) acc/\acc.length<=i) ⟨zv (Same.refl H1) hp1,zg,.nil,Jb _⟩ ?_ ?_ ?_ ?_
 ·rintro i acc H' hi ⟨sm,ep,ra,la⟩;exact⟨xs,xs[i],SqL.of (sm _ _ e1),List.getElem?_eq_getElem hi⟩
 ·rintro acc H' ⟨sm,ep,ra,la⟩;exact⟨xs,SqL.of (sm _ _ e1),Jb _⟩
 ·rintro i acc H' y H'' hi ⟨sm,ep,ra,la⟩ ⟨z1,z2⟩;subst z1;have ey:=z2 xs (SqL.of (sm _ _ e1));have hit:i < us.length:=by omega
  have et:=List.getElem?_eq_getElem hit;have ru:=(r.at i y _ ey et).keep (Same.tups sm);have ek:us.take (i+1)=us.take i++ [us[i]]:=by rw[List.take_add_one,et];rfl
  refine tt_ok y us[i] _ _ (Jm hit) sm ru λH2 s2=>?_;by_cases c:f us[i]=true
  ·rw[if_pos c];refine te_ok _ _ _ ?_;have ep2:=s2 _ _ ep;have tk:Tups H2 (upd H2 p (.lst (acc++ [y]))):=Tups.upd λxs z=>by rw[ep2] at z;cases z
   refine⟨ep2,Jg (show acc.length < 1000000 by omega) (by decide+kernel),nxt hi ⟨zbU (sm.trans s2) hp1,zg,?_,by rw[List.length_append,List.length_singleton];omega⟩⟩;rw[ek,List.filter_append,List.filter_cons_of_pos c];exact RepL.snoc ((ru.keep (Same.tups s2)).keep tk) ((ra.keep (Same.tups s2)).keep tk)
  ·rw[if_neg c];refine nxt hi ⟨sm.trans s2,s2 _ _ ep,?_,by omega⟩;rw[ek,List.filter_append,List.filter_cons_of_neg c];show RepL H2 ((us.take i).filter f++ []) acc;rw[List.append_nil];exact ra.keep (Same.tups s2)
 ·rintro acc H' ⟨sm,ep,ra,la⟩;rw[hxl,List.take_length] at ra;exact q acc H' sm ep ra
theorem znL (ts:List Th):dueT [] ts=none:=by
 unfold dueT
 induction ts with
 | nil=>rfl
 | cons t r ih=>exact ih
def zh4 {cs:QF}{ns:List Int}(g:GoodC cs)(hp:ns.Perm (cs.map (·.1))):(zw cs ns).map zj=ns:=by
 unfold zw;rw[List.map_map];have:∀n∈ns,(zj ∘ λn=>(zf cs n).getD .non) n=id n:=λn hn=>by obtain⟨u,eu⟩:=zdC (hp.subset hn);show zj ((zf cs n).getD .non)=n;rw[eu];exact(g.dep eu).2
 rw[List.map_congr_left this,List.map_id]
theorem Sub.nil (b:QF):Sub [] b:=λn t e=>by cases e
section
variable {p:Pg Int}{cs:QF}{m:Int}{s1:Vst}{ns:List Int}
def zjH (r1:Pg.Run p ⟨[],cs,[],900000⟩ (.ok m) s1)(f0:p.Fit ⟨[],cs,[],900000⟩)(g:GoodC s1.nt)(hp:ns.Perm (s1.nt.map (·.1))):p.Fit ⟨zJ (zw s1.nt ns),[],[],900000⟩/\∃w',Pg.Run p ⟨zJ (zw s1.nt ns),[],[],900000⟩ (.ok m) w'\/∃u t,Pg.Run p ⟨zJ (zw s1.nt ns),[],[],900000⟩ (.error (.clash u t)) w':=
 Pg.sim r1 rfl f0 (Jb _) (Sub.nil _) (Sub.nil _) rfl λn t e=>by show zf (zJ (zw s1.nt ns)) n=some t;rw[zfp g hp];exact e
def zjg (r1:Pg.Run p ⟨[],cs,[],900000⟩ (.ok m) s1)(f0:p.Fit ⟨[],cs,[],900000⟩)(g:GoodC s1.nt)(hp:ns.Perm (s1.nt.map (·.1)))(ne:zw s1.nt ns≠ []):zfm (zw s1.nt ns).dropLast/\p.Fit ⟨zJ (zw s1.nt ns).dropLast,[],[],900000⟩/\∃w' e,Pg.Run p ⟨zJ (zw s1.nt ns).dropLast,[],[],900000⟩ (.error e) w':=by
 have hs:=zh4 g hp;have hm:∀{t:Th},t∈zw s1.nt ns↔zf s1.nt (zj t)=some t:=zag g hp;have nt:=zc3 g hp;have nd:ns.Nodup:=hp.nodup_iff.mpr g.nd;obtain⟨ts',t0,et⟩:∃ts' t0,zw s1.nt ns=ts'++ [t0]:=⟨_,_,(List.dropLast_concat_getLast ne).symm⟩;generalize zw s1.nt ns=ts at hs hm nt et;subst et;rw[List.dropLast_concat];have nt':zfm ts':=λt ht u hu e=>nt t (Jq _ ht) u (Jq _ hu) e;have held:=zc2 nt' _ (Jb _);rw[List.take_length] at held;rw[List.map_append] at hs;have out:zj t0∉ts'.map zj:=λz=>by rw[<-hs,List.nodup_append] at nd;exact nd.2.2 _ z _ (Ji.mpr rfl) rfl
 obtain⟨fw,w',hw⟩:=Pg.lack (w:=⟨zJ ts',[],[],900000⟩) (n0:=zj t0) (t0:=t0) r1 rfl f0 (Jb _) (Sub.nil _) (Sub.nil _) rfl (λn t hn e=>by
   have st:zj t=n:=(g.dep e).2;have ht:t∈ts'++ [t0]:=hm.mpr (by rw[st];exact e);rcases List.mem_append.mp ht with ht | ht
   ·rw[<-st];exact held t ht
   ·rw[Ji.mp ht] at st;exact Jh st.symm hn) rfl (hm.mp (Jj _ (Ji.mpr rfl))) (by
   show zf (zJ ts') (zj t0)=none;cases z:zf (zJ ts') (zj t0) with
   | none=>rfl
   | some u=>
    have z':zf (zJ (ts'.take ts'.length)) (zj t0)=some u:=by rw[List.take_length];exact z
    obtain⟨hu,e⟩:=zbT z';exact Jh (List.mem_map.mpr ⟨u,hu,e⟩) out)
 refine⟨nt',fw,w',?_⟩;rcases hw with hw | ⟨u,t,hw⟩
 ·exact⟨_,hw⟩
 ·exact⟨_,hw⟩
def zmf (r1:Pg.Run p ⟨[],cs,[],900000⟩ (.ok m) s1)(f0:p.Fit ⟨[],cs,[],900000⟩):p.Fit ⟨[],[],[],900000⟩/\∃w',(s1.nt=[]/\Pg.Run p ⟨[],[],[],900000⟩ (.ok m) w')\/(s1.nt≠ []/\Pg.Run p ⟨[],[],[],900000⟩ (.error .lacks) w'):=
 Pg.void r1 rfl f0 (Jb _) rfl rfl rfl
def zlU {ks:QF}(r1:Pg.Run p ⟨[],cs,[],900000⟩ (.ok m) s1)(f0:p.Fit ⟨[],cs,[],900000⟩)(lk:∀n,zf ks n=zf cs n):p.Fit ⟨ks,[],[],900000⟩/\∃w',Pg.Run p ⟨ks,[],[],900000⟩ (.ok m) w'/\(∀n,zf w'.own n=zf s1.all n)/\w'.n=s1.n:=by obtain⟨a,w',b,c,d⟩:=Pg.full (w:=⟨ks,[],[],900000⟩) r1 rfl f0 (Jb _) rfl lk;exact⟨a,w',b,c,d rfl⟩
def zlR {ks ko:QF}{w':Vst}{u:Th}(r1:Pg.Run p ⟨[],cs,[],900000⟩ (.ok m) s1)(f0:p.Fit ⟨[],cs,[],900000⟩)(lk:∀n,zf ks n=zf cs n)(rf:Pg.Run p ⟨ks,[],[],900000⟩ (.ok m) w')(hf:∀n,zf w'.own n=zf s1.all n)(hu:zf w'.own (zj u)=some u)(hn:zf cs (zj u)≠some u)(ht:zaj u≠u)(lo:∀n,zf ko n=zf cs n)(ft:Fits ko (zj (zaj u)) (zaj u)):
  p.Fit ⟨[],addT ko (zj (zaj u)) (zaj u),[],900000⟩/\∃w2 a b,Pg.Run p ⟨[],addT ko (zj (zaj u)) (zaj u),[],900000⟩ (.error (.clash a b)) w2:=by
 have c0:zf cs (zj u)=none:=by
  cases z:zf cs (zj u) with
  | none=>rfl
  | some y=>have:=rf.kp.2 _ _ (show zf ks (zj u)=some y by rw[lk];exact z);rw[hu] at this;cases this;exact Jh z hn
 have o1:zf s1.own (zj u)=some u:=by
  have:=hf (zj u);rw[hu] at this;unfold Vst.all at this;rw[zaH,r1.kp.1] at this;cases z:zf s1.own (zj u) with
  | some y=>rw[z] at this;exact this.symm
  | none=>rw[z] at this;have t':some u=zf cs (zj u):=this;rw[c0] at t';cases t'
 rw[zhb];rw[zhb] at ft;refine Pg.twin (w:=⟨[],addT ko (zj u) (zaj u),[],900000⟩) (n0:=zj u) (t':=zaj u) (nw:=u) r1 rfl f0 (Jb _) rfl (λn hn=>?_) c0 (zar ft) rfl o1 ht.symm;show zf (addT ko (zj u) (zaj u)) n=zf cs n;rw[zci,if_neg λz=>hn z.symm,lo];cases zf cs n <;> rfl
end
inductive TV (h:Heap):Th->Value->Prop
 | non:TV h .non .none
 | int (i:Int) (t:Tok):TV h (.int i) (.int i t)
 | str (x:Str) (t:Tok):TV h (.str x) (.str x t)
 | tup {a:Addr} {o:Obj} {items:Array Value} {n:Nat} {ts:List Th} (ho:h.get? a=some o) (hc:o.cls=.type "tuple") (hd:o.data=.seq items n) (l:items.size=ts.length)
   (k:∀(i:Nat) (u:Value) (t:Th),items[i]? =some u->ts[i]? =some t->TV h t u):TV h (.tup ts) (.ref a)
theorem TV.of {X:Cx}{pins:QE}{σ:L2.St}{H:Hp}{s:Shared}(I:L2.Inv X pins σ H s){t:Th}{v:V}(r:Rep H t v):∀{u:Value},RelV v u->TV s.heap t u:=by
 induction r with
 | non=>intro u ru;cases (show u=Value.none from ru);exact .non
 | int i=>intro u ru;obtain⟨k,rfl⟩:=ru;exact .int i k
 | str x=>intro u ru;obtain⟨k,rfl⟩:=ru;exact .str x k
 | @tup a xs ts e l h ih=>
  intro u ru;cases (show u=Value.ref a from ru);obtain⟨_,its,rv,o,h1,h2,n,h3⟩:=(show zac X.prog X.w H s.heap a (.tup xs) from I.hok a _ e);have hl:=rv.length;refine .tup h1 h2 h3 (by rw[List.size_toArray];omega) λi u t eu et=>?_;have hi:i < xs.length:=by have:=(List.getElem?_eq_some_iff.mp et).1;omega
  have ex:xs[i]? =some xs[i]:=List.getElem?_eq_getElem hi;obtain⟨w,ew,rw'⟩:=rv.get ex;have:u=w:=by
   have e2:its[i]? =some u:=by simpa using eu
   rw[ew] at e2;exact(Option.some.inj e2).symm
  subst this;exact ih i _ _ ex et rw'
theorem TV.inj {h:Heap}{t:Th}{u:Value}(r:TV h t u):∀{t':Th},TV h t' u->t=t':=by
 induction r with
 | non=>intro t' q;cases q;rfl
 | int i k=>intro t' q;cases q;rfl
 | str x k=>intro t' q;cases q;rfl
 | @tup a o items n ts ho hc hd l k ih=>
  intro t' q;cases q with
  | @tup _ o' items' n' ts' ho' hc' hd' l' k'=>
   obtain rfl:o=o':=Option.some.inj (ho.symm.trans ho');rw[hd] at hd';injection hd' with e1 _
   subst e1;congr 1;apply List.ext_getElem?;intro i;by_cases hi:i < ts.length
   ·have e1:ts[i]? =some ts[i]:=List.getElem?_eq_getElem hi;have e2:ts'[i]? =some (ts'[i]'(by omega)):=List.getElem?_eq_getElem (by omega);have e3:items[i]? =some (items[i]'(by omega)):=Array.getElem?_eq_getElem (by omega);rw[e1,e2,ih i _ _ e3 e1 (k' i _ _ e3 e2)]
   ·rw[List.getElem?_eq_none (by omega),List.getElem?_eq_none (by omega)]
def hsh (w:World):Th->Int
 | .non=>0xFCA86420
 | .int i=>hashInt i
 | .str x=>hashStr w x
 | .tup ts=>reduceHash (Builtin.Tuple.tupleHashOf (hshL w ts))
where hshL (w:World):List Th->List Int
 | []=>[]
 | t::ts=>hsh w t::hshL w ts
section
variable {prog:Program}{w:World}{A:Around}{E:QC}{s:Shared}
end
end Pv
set_option maxHeartbeats 400000
namespace Pv
open PySem L2 PySem.Spec PyProof.Rows
open Classical in
noncomputable def isT (h:Heap)(t:Th)(u:Value):Bool:=decide (TV h t u)
open Classical in
theorem zmM {h:Heap}{t u:Th}{v:Value}(r:TV h u v):isT h t v=eqT u t:=by
 unfold isT;cases z:eqT u t with
 | true=>have e:u=t:=(za8 u t).mp z;rw[<-e];exact decide_eq_true r
 | false=>exact Je λq=>by rw[r.inj q,zaO] at z;cases z
section
variable {X:Cx}
theorem zkZ {X:Cx}{pins:QE}{σ:L2.St}{H:Hp}{s:Shared}(I:L2.Inv X pins σ H s)(t:Th):∀{ts:List Th} {xs:QQ} {its:QN},RepL H ts xs->Vals xs its->its.any (isT s.heap t)=ts.any λu=>eqT u t
 | _,_,_,.nil,.nil=>rfl
 | _,_,_,.cons h r,.cons a b=>by rw[List.any_cons,List.any_cons,zmM (TV.of I h a),zkZ I t r b]
theorem znH {X:Cx}{pins:QE}{σ:L2.St}{H:Hp}{s:Shared}{A:Around}(I:L2.Inv X pins σ H s){t:Th}{x:V}{v:Value}(rt:Rep H t x)(rx:RelV x v)(hu:A.units+52 < cLine):∀{ts:List Th} {xs:QQ} {its:QN},RepL H ts xs->Vals xs its->(∀u∈ts,dep u<=50)->∀w∈its,SeqAt.EqAt A s w v (isT s.heap t w)
 | _,_,_,.nil,.nil,_=>λw hw=>nomatch hw
 | u::_,_,_,.cons h r,.cons a b,hd=>λw hw=>by
  rcases List.mem_cons.mp hw with e | hw
  ·subst e;have:=hd u List.mem_cons_self;rw[zmM (TV.of I h a)];exact zjO I h rt a rx (by omega)
  ·exact znH I rt rx hu r b (λz hz=>hd z (Jn _ hz)) w hw
def zjB {k:Nat}(hr:Room k X.A):OpR X (compareOp .NotIn) (λx y H Q=>∃b xs ts t,y=.ref b/\SqL X.K H b xs/\RepL H ts xs/\Rep H t x/\(∀u∈ts,dep u<=50)/\Q (.bl (!ts.any λu=>eqT u t)) H):=by intro pins s σ H x y v u Q I rx ry h;obtain⟨b,xs,ts,t,rfl,hq,rl,rt,hd,q⟩:=h;cases ry;obtain⟨its,r,pl,hz⟩:=I.list hq;have hu:=hr.units;refine SeqAt.notIn_listAt (isT s.heap t) pl.isList (λw hw=>znH I rt rx (by first | omega | (show X.A.units+1+52 < cLine;omega)) rl r hd w (by simpa using hw)) ⟨.bl _,H,I,rfl,?_⟩;rw[show its.toArray.any (isT s.heap t)=its.any (isT s.heap t) by simp,zkZ I t rl r];exact q
end
end Pv
set_option maxHeartbeats 4000000
namespace L2
open PySem PySem.Spec PyProof.Rows
section
variable {X:Cx}
end
end L2
namespace Px
open PySem PySem.W PySem.Builtin
section
variable {prog:Program}{w:World}{A:Around}{E:QC}{s:Shared}{K:Frag}{x D:Addr}{ox:Obj}{od:Option Obj}
end
end Px
namespace L2
open PySem PySem.Spec PyProof.Rows Px
section
variable {X:Cx}
end
end L2
namespace Px
open PySem PySem.W PySem.Builtin
open PySem.AutoSeq1 (wpAny_loadPart')
section
variable {prog:Program}{w:World}{A:Around}{E:QC}{s:Shared}
end
end Px
namespace L2
open PySem PySem.Spec PyProof.Rows Px
section
variable {X:Cx}{e:Expr}{ta:TA}{p1 p2 q1 q2:Pos}
end
end L2
namespace L2
open PySem PySem.Spec PyProof.Rows
section
variable {X:Cx}
open PySem.SeqAt in
def zp0 {pins:QE}{σ:St}{H:Hp}{s:Shared}(I:Inv X pins σ H s){a b:Addr}{xs:QQ}{A:Around}(e:SqL X.K H a xs)(e':SqL X.K H b xs)(h:∀x∈xs,ziE x=true/\eqV x x=true)(hu:A.units+60 < cLine):
  RcAt A s (.ref a) (.ref b) true/\RcNeAt A s (.ref a) (.ref b) false:=by
 obtain⟨its,r1,T1,_⟩:=I.list e;obtain⟨jts,r2,T2,_⟩:=I.list e';have n1:=r1.length;have n2:=r2.length;have key:∀j (h1:j < its.toArray.size) (h2:j < jts.toArray.size),EqAt A.in1 s its.toArray[j] jts.toArray[j] true:=λj h1 h2=>by
  have h1':j < its.length:=by simpa using h1
  have h2':j < jts.length:=by simpa using h2
  have hx:xs[j]? =some xs[j]:=List.getElem?_eq_getElem (show j < xs.length by omega);obtain⟨vx,ex,rx⟩:=r1.get hx;obtain⟨vy,ey,ry⟩:=r2.get hx;have z1:its.toArray[j]=vx:=by rw[List.getElem?_eq_getElem h1'] at ex;simpa using Option.some.inj ex
  have z2:jts.toArray[j]=vy:=by rw[List.getElem?_eq_getElem h2'] at ey;simpa using Option.some.inj ey
  rw[z1,z2];obtain⟨f1,f2⟩:=h xs[j] (Jm (show j < xs.length by omega));have:=zq3 (A:=A.in1) (s:=s) rx ry f1 f1;rw[f2] at this;exact this
 have hsz:its.toArray.size=jts.toArray.size:=by rw[List.size_toArray,List.size_toArray];omega
 have R:=RcAt.lists (e:=λ_=>true) T1.isList T2.isList hsz (show A.units < cLine by omega) key;have R':=RcNeAt.lists (e:=λ_=>true) T1.isList T2.isList hsz (show A.units < cLine by omega) key;have e3:(List.range its.toArray.size).all (λ_=>true)=true:=List.all_eq_true.mpr λ_ _=>rfl;rw[e3] at R R';exact⟨R,R'⟩
def zrX {k:Nat}(hr:Room k X.A):OpR X (compareOp .Eq) (λx y H Q=>∃a b xs,x=.ref a/\y=.ref b/\SqL X.K H a xs/\SqL X.K H b xs/\(∀x∈xs,ziE x=true/\eqV x x=true)/\Q (.bl true) H):=by intro pins s σ H x y v w Q I rx ry h;obtain⟨a,b,xs,rfl,rfl,e1,e2,hf,q⟩:=h;cases (show v=Value.ref a from rx);cases (show w=Value.ref b from ry);have hu:=hr.units;exact(zp0 I e1 e2 hf (by omega)).1 _ _ _ _ ⟨.bl _,H,I,rfl,q⟩
def zpi {k:Nat}(hr:Room k X.A):OpR X (compareOp .NotEq) (λx y H Q=>∃a b xs,x=.ref a/\y=.ref b/\SqL X.K H a xs/\SqL X.K H b xs/\(∀x∈xs,ziE x=true/\eqV x x=true)/\Q (.bl false) H):=by intro pins s σ H x y v w Q I rx ry h;obtain⟨a,b,xs,rfl,rfl,e1,e2,hf,q⟩:=h;cases (show v=Value.ref a from rx);cases (show w=Value.ref b from ry);have hu:=hr.units;exact(zp0 I e1 e2 hf (by omega)).2 _ _ _ _ ⟨.bl _,H,I,rfl,q⟩
end
section
variable {X:Cx}
def zgk {k:Nat}(hr:Room k X.A):OpR X (compareOp .NotEq) (λx y H Q=>∃a b xs,x=.ref a/\y=.ref b/\SqL X.K H a xs/\SqL X.K H b []/\Q (.bl (!xs.isEmpty)) H):=by
 intro pins s σ H x y v w Q I rx ry h;obtain⟨a,b,xs,rfl,rfl,e,e',q⟩:=h;cases (show v=Value.ref a from rx);cases (show w=Value.ref b from ry);have hu:=hr.units;obtain⟨its,r1,T1,_⟩:=I.list e;obtain⟨jts,r2,T2,_⟩:=I.list e';have n1:=r1.length;have n2:=r2.length;cases xs with
 | nil=>
  have z1:its=[]:=by cases its with | nil=>rfl | cons=>simp at n1
  have z2:jts=[]:=by cases jts with | nil=>rfl | cons=>simp at n2
  subst z1 z2;exact(PySem.SeqAt.RcNeAt.lists (e:=λ_=>true) T1.isList T2.isList rfl (by omega) (λj h1=>Jh h1 (Nat.not_lt_zero _))) _ _ _ _ ⟨.bl _,H,I,rfl,q⟩
 | cons c xs=>
  have z2:jts=[]:=by cases jts with | nil=>rfl | cons=>simp at n2
  subst z2;have hsz:(its.toArray.size != (#[]:Array Value).size)=true:=by rw[List.size_toArray,bne_iff_ne,<-n1,List.length_cons];exact Nat.succ_ne_zero _
  exact(PySem.SeqAt.RcNeAt.lists_lengths T1.isList T2.isList hsz (by omega)) _ _ _ _ ⟨.bl _,H,I,rfl,q⟩
end
section
variable {X:Cx}{x y1 y2 y3:Str}{scope:Scope}{j1 j2 j3:Nat}{c1 c2 c3:Addr}
def zV.three (clos:closureFor scope X.env=pure [(y1,c1),(y2,c2),(y3,c3)])(kind:scope.kind=.function)(nc:∀y∈scope.names,y.2≠ .cell)(nm:∀y∈scope.names,y.2=.local->scope.names.lookup y.1=some .local)(tgt:scope.names.lookup x=some .local)
  (n1:x≠y1) (n2:x≠y2) (n3:x≠y3) (n12:y1≠y2) (n13:y1≠y3) (n23:y2≠y3) (e1:X.env.cells.lookup y1=some c1) (e2:X.env.cells.lookup y2=some c2) (e3:X.env.cells.lookup y3=some c3) (only:∀q∈scope.names,q.2=.free->q.1=y1\/q.1=y2\/q.1=y3) (h1:X.N[j1]? =some y1) (h2:X.N[j2]? =some y2) (h3:X.N[j3]? =some y3)
  (k1:X.env.kindOf y1=some .cell\/X.env.kindOf y1=some .free) (k2:X.env.kindOf y2=some .cell\/X.env.kindOf y2=some .free) (k3:X.env.kindOf y3=some .cell\/X.env.kindOf y3=some .free)
  (r1:(relabel scope X.env).names.lookup y1=some .cell\/(relabel scope X.env).names.lookup y1=some .free) (r2:(relabel scope X.env).names.lookup y2=some .cell\/(relabel scope X.env).names.lookup y2=some .free) (r3:(relabel scope X.env).names.lookup y3=some .cell\/(relabel scope X.env).names.lookup y3=some .free):
  zV X x [y1,y2,y3] [j1,j2,j3] scope [(y1,c1),(y2,c2),(y3,c3)] where
 clos:=clos
 kind:=kind
 nocell:=nc
 names:=nm
 tgt:=tgt
 nd:=by simp[n1,n2,n3,n12,n13,n23]
 sub:=λp hp=>by
  rcases List.mem_cons.mp hp with z | z
  ·rw[z];exact e1
  ·rcases List.mem_cons.mp z with z | z
   ·rw[z];exact e2
   ·rw[Ji.mp z];exact e3
 has:=λp hp hk=>by
  have key:∀q:Str ×NameKind,q∈scope.names->q.2=.free->q.1∈ [(y1,c1),(y2,c2),(y3,c3)].map (·.1):=λq hq z=>by rcases only q hq z with z | z | z <;> simp[z]
  obtain⟨q,hq,e,h | h⟩:=zdg hp
  ·subst h;rcases hk with hk | hk
   ·exact Jh hk (nc _ hq)
   ·exact key _ hq hk
  ·rw[e];exact key _ hq h
 fr:=λi z e=>by
  match i,e with
  | 0,e=>cases e;exact⟨j1,rfl,h1,k1,r1⟩
  | 1,e=>cases e;exact⟨j2,rfl,h2,k2,r2⟩
  | 2,e=>cases e;exact⟨j3,rfl,h3,k3,r3⟩
  | i+3,e=>simp at e
 len:=rfl
end
def znK {X:Cx}{K:QA}(h:X.K=K):SlR X (rSlL K):=h ▸ zdz
def ziu {X:Cx}{K:QA}{k:Nat}(h:X.K=K)(hr:Room k X.A):OpR X (compareOp .NotIn) (λx y H Q=>∃b xs ts t,y=.ref b/\SqL K H b xs/\Pv.RepL H ts xs/\Pv.Rep H t x/\(∀u∈ts,Pv.dep u<=50)/\Q (.bl (!ts.any λu=>Pv.eqT u t)) H):=by subst h;exact Pv.zjB hr
end L2
namespace Pv
open PySem L2
open Tr
abbrev zeP:Stmt:=top 73
def zai:zr ["keeper","root","cell","twin","number","worth","ask","due","paper","before","full","news","other","words"] ["keeper","root","cell","twin"] (ze zeP):=L2.fsc (by decide+kernel)
def VS.thg {H:Hp}{C a d:Addr}{cs:QF}(v:VS H C a d cs):∃dx fs kv,H a=some (.ins C dx fs)/\fs.lookup ("things" :Str)=none/\VOk H C a d kv/\DRep H cs kv:=by obtain⟨kv,vo,dr⟩:=v.vo;obtain⟨⟨dx,fs,eo,fl⟩,_⟩:=id vo;exact⟨dx,fs,kv,eo,fl.n4,vo,dr⟩
def zql {tc:TT}{t u:TS}{D:L2.Ends}{σ:L2.St}{H:Hp}(Pc:Bool->Hp->Prop)(a:∀N:Bool->Hp->Prop,(∀b H,Pc b H->N b H)->tc σ H N)(rest:∀b H,Pc b H->if b=true then t D σ H else u D σ H):tIfS tc t u D σ H:=a _ rest
def RepL.takeN {H:Hp}{ts:List Th}{vs:QQ}(r:RepL H ts vs):∀k:Nat,RepL H (ts.take k) (vs.take k):=by
 induction r with
 | nil=>intro k;rw[List.take_nil,List.take_nil];exact .nil
 | cons h _ ih=>
  intro k;cases k with
  | zero=>exact .nil
  | succ k=>exact .cons h (ih k)
theorem zlt (xs:QQ):cutV xs none (some (-1))=xs.dropLast:=by unfold cutV;rw[HT.sIx_none,List.drop_zero,Nat.sub_zero,List.dropLast_eq_take];congr 1;simp only[HT.sIx];rw[if_pos (by decide)];omega
def zpW (C CC:Addr):Sp:=λvs H Q E=>∃(a d:Addr) (st:Vst) (T:Tr) (c tw:Int),vs=[.ref a,.int T.root,.int c,.int tw]/\zmw C H a d st T/\T.cnt<=14/\st.own.length<=50000/\(tw=0\/tw=1)/\Cl CC E/\∀H',Same H H'->Q (.bl true) H'
theorem Cl.er {CN CB CC:Addr}{H:Hp}{E:XK}(cl:Cl CC E)(u t:Th):ErS CN CB CC H E (.clash u t):=λx v1 v2 H' _ r1 r2 g1 g2 ne sn ex=>cl u t v1 v2 H' x r1 r2 g1 g2 ne sn ex
section
variable {P:Program}{w:World}{K:QA}{mg:QB}{base:Heap}{CP W C CC CN CB:Addr}
def zqR (D:Dfn K mg "_law_one" zeP ["keeper","root","cell","twin"]) (zfg:Fn P w K mg base "_law_key" 1 ["number","twin"] zjX) (zrP:Mkr P w K mg base "Put" CP 1 ["self","key","worth"] (spI2 CP "key" "worth")) (za3:FnX P w K mg base "answer_with_paper" 27 ["keeper","root","ask"] (znl CP C CN CB CC)) (zff:FnX P w K mg base "checked" 27 ["root","ask","paper"] (znU CP W CN CB CC)) (zfW:Fn P w K mg base "shown" 28 ["root","ask","paper","keeper"] (zih CP C))
  (zgX:Fn P w K mg base "_law_copy" 15 ["keeper"] (zmY C)) (zbP:Fn P w K mg base "_law_twinned" 9 ["one"] (zn7 7)) (zdx:Mt P w K mg base (CX1 P w) CP "answer" 25 ["self","vault","root"] (zhU CP (VK C) CN CB CC)) (zdy:Mt P w K mg base CX0 C "things" 2 ["self"] (zgb C)) (zcm:Mt P w K mg base (CX1 P w) C "lay" 14 ["self","thing"] (zh8 C CC)) (zcT:Mkr P w K mg base "Keeper" C 1 ["self"] (zcv C)) (c_C:Cls K C) (c_P:Cls K CP) (zj7:mg "list" =none) (zR:mg "len" =none) (zbr:mg "int" =none):
  FnX P w K mg base "_law_one" 30 ["keeper","root","cell","twin"] (zpW C CC):=by
 refine D.okX (k:=29) zai (λvs H Q E h=>?_) (λf cdv A outer s H vs Q E hr h=>?_)
 ·obtain⟨a,d,st,T,c,tw,rfl,_⟩:=h;rfl
 obtain⟨a,d,st,T,c,tw,rfl,⟨vk,tk,so⟩,hc,hown,ht,cl,q⟩:=h;refine⟨_,(zb (zu (i:=4) zai.nd rfl (Or.inl rfl) (zG zaA (pv 2) zo))
 (zb (zu (i:=5) zai.nd rfl (Or.inl rfl) (zbj (za (zH zaL (za0 (za zo (za (zcN zbB zo) zc))) (pv 3) (λ_ _=>rfl)) (za (zG zau (zG zaA (pv 4) zo) zo) zc))))
 (zb (zu (i:=6) zai.nd rfl (Or.inr rfl) (zn3 zrP hr (by omega) (by rfl) (za (zK zfg hr (by omega) (by rfl) (za (pv 4) (za (pv 3) zc))) (za (pv 5) zc))))
 (zb (zqr (zaP za3 hr (by omega) (by rfl) zL (za (pv 0) (za (pv 1) (za (pv 6) zc)))) (zjp rfl (zcF (zZ (i:=7) zai.nd rfl (Or.inl rfl)) (zcF (zZ (i:=8) zai.nd rfl (Or.inr rfl)) zia))))
 (zb (zu (i:=9) zai.nd rfl (Or.inr rfl) (ze5 zh3 (by rfl) zj7 (by rfl) (za (zgE (pv 0) c_C zdy hr (by omega) zdS) zc)))
 (zb (zu (i:=10) zai.nd rfl (Or.inl rfl) (zK zgX hr (by omega) (by rfl) (za (pv 0) zc)))
 (zb (zax (zbw (pv 6) c_P zdx hr (by omega) zL (za (pv 10) (za (pv 1) zc))))
 (zb (zgM (i:=11) (zV.one (y:= "before") (j:=9) (c:=s.heap.objs.size+4) (by rfl) (by rfl) (by decide+kernel) (by decide+kernel) (by rfl) (by decide+kernel) (by rfl) (by decide+kernel) (by rfl) (by first | exact Or.inl rfl | exact Or.inr rfl) (by first | exact Or.inl rfl | exact Or.inr rfl)) rfl (zcn (zgE (pv 10) c_C zdy hr (by omega) zdS)) (λ_ _ _=>zph (PW.pt (zgA (zB (ziu (K:=K) rfl hr) (pv 0) (pv 1) (by rfl)) (zex (zB (zei hr) (zK zbP hr (by omega) (by rfl) (za (pv 0) zc)) (pv 0) (zA _)))))) (λ_ _ _=>(pv 0)) zai.nd rfl (Or.inl rfl) (by rfl))
 (zb (zN (PW.pt (zfu (zB zee (zaP zff hr (by omega) (by rfl) zL (za (pv 1) (za (pv 6) (za (pv 8) zc)))) (pv 7) (zA _)) (zdp (zB zee (zK zfW hr (by omega) (by rfl) (za (pv 1) (za (pv 6) (za (pv 8) (za (pv 0) zc))))) zam (zA _)))))
 (zd (zq zb2))
 zy)
 (zb (zN (zB (zgk hr) (pv 11) (za0 zc) (zA _))
 (zb (zu (i:=12) zai.nd rfl (Or.inl rfl) (zK zgX hr (by omega) (by rfl) (za (pv 0) zc)))
 (zb (zax (zbw (pv 12) c_C zcm hr (by omega) zL (za (zK zbP hr (by omega) (by rfl) (za (zH zaL (pv 11) (zG zau (zG zaA (pv 4) zo) (zF (zT) (by rfl) zR (by rfl) (za (pv 11) zc))) (λ_ _=>rfl)) zc)) zc)))
 (zd (zN (zB zee (zK zfW hr (by omega) (by rfl) (za (pv 1) (za (pv 6) (za (pv 8) (za (pv 12) zc))))) zam (zA _))
 (zd (zq zb2))
 zy))))
 zy)
 (zb (zgM (i:=13) (zV.three (y1:= "root") (y2:= "paper") (y3:= "ask") (j1:=1) (j2:=8) (j3:=6) (c1:=s.heap.objs.size+1) (c2:=s.heap.objs.size+3) (c3:=s.heap.objs.size+2) (by rfl) (by rfl) (by decide+kernel) (by decide+kernel) (by rfl) (by decide+kernel) (by decide+kernel) (by decide+kernel) (by decide+kernel) (by decide+kernel) (by decide+kernel) (by rfl) (by rfl) (by rfl) (by decide+kernel) (by rfl) (by rfl) (by rfl) (by first | exact Or.inl rfl | exact Or.inr rfl) (by first | exact Or.inl rfl | exact Or.inr rfl) (by first | exact Or.inl rfl | exact Or.inr rfl) (by first | exact Or.inl rfl | exact Or.inr rfl) (by first | exact Or.inl rfl | exact Or.inr rfl) (by first | exact Or.inl rfl | exact Or.inr rfl)) rfl (zhR (zbj (za (pv 0) (za (zfM zcT hr (by omega) (by rfl)) zc)))) (λ_ _ _=>zeg) (λ_ _ _=>(zK zfW hr (by omega) (by rfl) (za (pv 1) (za (pv 3) (za (zcf (znK (K:=K) rfl) (pv 2) zer (zb5 (zcN zbB zo))) (za (pv 0) zc)))))) zai.nd rfl (Or.inl rfl) (by rfl))
 (zb (zN (PW.pt (zfu (PW.pt (zgA (zB (zgk hr) (pv 8) (za0 zc) (zA _)) (zex (zB (zpi hr) (pv 13) (za0 (za zam (za zam zc))) (zA _))))) (zdp (zB (zpr hr) (zgE (pv 0) c_C zdy hr (by omega) zdS) (pv 9) (zA _)))))
 (zd (zq zb2))
 zy)
 (zd (zq (zaF zb0 (zK zfW hr (by omega) (by rfl) (za (pv 1) (za (pv 6) (za (pv 8) (za (zfM zcT hr (by omega) (by rfl)) zc))))) (zH zaL (za0 (za zam (za zam zc))) (ze5 zl6 (by rfl) zbr (by rfl) (za (zaF (zgk hr) (pv 8) (za0 zc) (zA _)) zc)) (λ_ _=>rfl)) (zA _)))))))))))))))),?_⟩
 obtain⟨i,ei,i0,i1⟩:=zmK ht;refine⟨_,rfl,_,_,rfl,rfl,⟨by decide,by decide+kernel⟩,?_⟩;generalize hnum:c / 3=num;show zdR 4 (V.int (c / 3)) _ _ _;rw[hnum];refine⟨_,rfl,szl (show 2<=1000 by decide),λp0 hp0=>?_⟩;refine⟨_,rfl,p0,_,_,_,rfl,rfl,SqL.of zg,ei,_,rfl,_,_,rfl,rfl,⟨by decide,by decide+kernel⟩,_,_,rfl,rfl,(show(0:Int) < 5 by decide),szl (show 2<=1000 by decide),λp1 hp1=>?_⟩;have j0:0<=num / 70 % 5:=Jt _ (by decide);have j1:num / 70 % 5 < 5:=Jo _ (by decide);have kw:KeyT (.tup [.int i,.int (num / 70 % 5)]):=znB i0 i1 (by omega) (by omega);have sw:Same H (upd (upd H p0 (.lst [.int 251530379464423,.int (-1285000000000000000)])) p1 (.tup [.int i,.int (num / 70 % 5)])):=zv (zv (Same.refl H) hp0) hp1;have rw1:Rep (upd (upd H p0 (.lst [.int 251530379464423,.int (-1285000000000000000)])) p1 (.tup [.int i,.int (num / 70 % 5)])) (.tup [.int i,.int (num / 70 % 5)]) (.ref p1):=(RepL.cons (.int i) (.cons (.int _) .nil)).new hp1;refine⟨_,rfl,_,rfl,num,tw,rfl,ht,λk H2 s2 kt=>?_⟩;refine⟨_,rfl,λb dxb hb hdxb nb=>⟨b,dxb,_,_,rfl,zg,λH3 f3 e3=>⟨rfl,?_⟩⟩⟩;have s3:Same H2 H3:=λc o e=>f3 c o (zm e hb) (by rw[zk (zm e hb),zk (zm e hdxb)];exact e);have sA:Same H H3:=sw.trans (s2.trans s3);have qa:zeF CP H3 b (kTh k) (.tup [.int i,.int (num / 70 % 5)]):=⟨dxb,_,_,e3,zjt H3 k,rw1.keep (Same.tups (s2.trans s3))⟩;generalize Th.tup [.int i,.int (num / 70 % 5)]=wo at kw qa;clear rw1 f3 e3 sw s2 s3 hp0 hp1;obtain⟨d',ed,vs⟩:=vk.vs;cases ed;have tk0:TOk ([]++st.own) T:=by
  have:st.all=st.own:=by unfold Vst.all;rw[vk.kp,List.append_nil]
  rw[this] at tk;exact tk
 generalize st.own=cs at vs tk0 hown;have W:(putP T.root (kTh k) wo).wp ⟨[],cs,[],900000⟩ (λ_ s'=>899000<=s'.n) (λe _=>∃u t,e=.clash u t):=zm7 (A:=λ_=>True) (λu t _=>⟨u,t,rfl⟩) tk0 (by omega) kt kw (show 1000<=900000 by decide) (λ_ _=>trivial) λs' g' _=>by have:=g'.n;have e:(⟨[],cs,[],900000⟩:Vst).n=900000:=rfl;omega
 obtain⟨f0,ok0,er0⟩:=Pg.of_wp W;have gx:=kt.good;clear W tk tk0 so kt kw hc vk;generalize kTh k=x at f0 ok0 er0 qa gx;refine⟨_,rfl,_,rfl,_,rfl,a,d,b,cs,T.root,x,wo,rfl,vs.same sA,qa,gx,Pg.wp_of f0 (λm s1 r1 pt l ns xs H4 s4 gc ept hp hs el rl=>?_) (λe s1 r1=>?_)⟩
 rotate_left
 ·obtain⟨u,t,rfl⟩:=er0 e s1 r1;exact cl.er u t
 have nN:=ok0 m s1 r1;have few:=r1.few f0;have e0:(⟨[],cs,[],900000⟩:Vst).nt.length+(⟨[],cs,[],900000⟩:Vst).n=900000:=rfl;have hnt:s1.nt.length<=1000:=by omega
 clear er0 ok0 few e0;have wl:=zd5 (cs:=s1.nt) hp;have nt:=zc3 gc hp;have g5:∀t∈zw s1.nt ns,G5 t:=λt ht=>by have g:=(gc.dep ((zag gc hp).mp ht)).1;exact⟨g.wf,g.dp,g.nd⟩
 have hl5:(zw s1.nt ns).length<=5000:=by omega
 have sB:=sA.trans s4;refine⟨pt,_,rfl,SqT.of ept,rfl,_,_,rfl,_,_,rfl,rfl,?_⟩;have vs4:=vs.same sB;obtain⟨dxa,fs,kv,eo,nl,vo,dr⟩:=vs4.thg;refine⟨_,rfl,a,dxa,fs,rfl,eo,nl,a,d,kv,cs,rfl,vo,dr,by omega,λl2 ns2 xs2 H5 s5 hl2 hp2 hs2 el2 rl2=>?_⟩;refine⟨l2,xs2,rfl,.inl (SqL.of el2),λpb hpb=>?_⟩;have s6:Same H5 (upd H5 pb (.lst xs2)):=zv (Same.refl H5) hpb;have epb:upd H5 pb (.lst xs2) pb=some (.lst xs2):=zg;generalize upd H5 pb (.lst xs2)=H6 at s6 epb;have s46:=s5.trans s6;have sC:=sB.trans s46;have rb:=rl2.keep (Same.tups s6);have el6:=s46 _ _ el;have rl6:=rl.keep (Same.tups s46);have qa6:=(qa.same s4).same s46;have vs6:=vs4.same s46;clear dr vo nl eo kv fs dxa rl2 el2 s5 s6 vs4 rl el s4 ept qa;refine⟨_,rfl,a,d,cs,rfl,vs6,by omega,λbf df ks H7 s7 hdf vf lkf lenf=>?_⟩;obtain⟨fF,wF,rF,hF,nF⟩:=zlU r1 f0 lkf;have qa7:=qa6.same s7;obtain⟨dxb',vk',vw',eb,_⟩:=id qa7;have vkf:VK C H7 bf [df] ⟨ks,[],[],900000⟩:=⟨⟨df,rfl,vf⟩,rfl,by show ks.length+900000<=1000000;omega⟩;refine⟨_,rfl,b,dxb',_,rfl,eb,rfl,_,rfl,_,rfl,b,bf,[df],⟨ks,[],[],900000⟩,T.root,x,wo,rfl,qa7,gx,vkf,Pg.wp_of fF (λm2 w2 r2 v8 H8 f8 vk8 ev8=>?_) (λe w2 r2=>by cases (rF.det r2).1)⟩;obtain⟨e1,e2⟩:=rF.det r2;subst e2;clear e1 r2 ev8 v8 vkf eb;have hdf0:=sC.free hdf;have s68:Same H6 H8:=λc o e=>f8 c o (λz=>by rw[Ji.mp z] at e;rw[e] at hdf;cases hdf) (s7 c o e);have sD:=sC.trans s68;obtain⟨df',edf,vf8⟩:=vk8.vs;cases edf;have rmf:=vk8.rm;clear f8 vk8 s7 qa7 vf hdf hdf0 m2;obtain⟨dxf,fs,kv,eo,nl,vo,dr⟩:=vf8.thg;refine⟨_,rfl,bf,dxf,fs,rfl,eo,nl,bf,df,kv,wF.own,rfl,vo,dr,by omega,λl3 ns3 xs3 H9 s9 hl3 hp3 hs3 el3 rl3=>?_⟩;have gF:=vf8.gc;have wl3:=zd5 (cs:=wF.own) hp3;have rb8:=rb.keep (Same.tups s68);have epb8:=s68 _ _ epb;have d50:∀u∈zw cs ns2,dep u<=50:=λu hu=>Jk (vs6.gc.dep ((zag vs6.gc hp2).mp hu)).1.dp (by decide);refine⟨l3,rfl,⟨_,SqL.of el3⟩,λpn hpn=>?_⟩;refine zoL (us:=zw wF.own ns3) el3 rl3 hpn (by omega) (λu=>(!(zw cs ns2).any λy=>eqT y u) && !eqT (zaj u) u) (λv u H' Z hu sm rv z=>?_) (λv H' Z z=>⟨_,rfl,z⟩) λaccN H10 s10 epn rN=>?_
 ·have s9':=s9.trans sm;have gu:=(gF.dep ((zag gF hp3).mp hu)).1;have gd:=gu.dp;refine⟨_,rfl,_,rfl,pb,xs2,zw cs ns2,u,rfl,SqL.of (s9' _ _ epb8),rb8.keep (Same.tups s9'),rv,d50,_,rfl,?_⟩;refine ifB (λc=>?_) (λc=>?_)
  ·refine⟨_,rfl,u,v,rfl,rv,gu.wf,by omega,by omega,λv' H'' s'' rv'=>?_⟩;have dt:=(zhN u gu.wf).2.1;refine⟨_,rfl,zaj u,u,rv',rv.keep (Same.tups s''),by omega,_,rfl,?_⟩;have:=z H'' s'';rw[c,Bool.true_and] at this;exact this
  ·have:=z H' (Same.refl H');rw[c,Bool.false_and] at this;exact this
 have s8A:=s9.trans s10;have s6A:=s68.trans s8A;have sE:=sC.trans s6A;have el10:=s6A _ _ el6;have rl10:=rl6.keep (Same.tups s6A);have qa10:=qa6.same s6A;have vs10:=vs6.same s6A;have epb10:=s8A _ _ epb8;have rb10:=rb8.keep (Same.tups s8A);have inF:∀u∈(zw wF.own ns3).filter (λu=>(!(zw cs ns2).any λy=>eqT y u) && !eqT (zaj u) u),Good u/\zf wF.own (zj u)=some u/\zf cs (zj u)≠some u/\zaj u≠u:=λu hu=>by
  obtain⟨h1,h2⟩:=Jz.mp hu;have h3:=(zag gF hp3).mp h1;rw[Bool.and_eq_true] at h2;refine⟨(gF.dep h3).1,h3,λz=>?_,λz=>?_⟩
  ·have hm:u∈zw cs ns2:=(zag vs6.gc hp2).mpr z;have:((zw cs ns2).any λy=>eqT y u)=true:=List.any_eq_true.mpr ⟨u,hm,zaO u⟩;rw[this] at h2;cases h2.1
  ·rw[z,zaO] at h2;cases h2.2
 generalize(zw wF.own ns3).filter (λu=>(!(zw cs ns2).any λy=>eqT y u) && !eqT (zaj u) u)=us at rN inF;clear dr vo nl eo kv fs dxf s9 s10 s8A s6A el3 rl3 hp3 hs3 hl3 gF wl3 rb8 epb8 vs6 qa6 el6 rl6 rb epb s68 sD vf8 rmf nF;obtain⟨fP,wP,hP⟩:=zjH r1 f0 gc hp;rcases hP with rP | ⟨u,t,rP⟩
 rotate_left
 ·exact⟨_,rfl,_,rfl,_,rfl,b,l,T.root,x,wo,xs,zw s1.nt ns,rfl,qa10,gx,el10,rl10,hl5,g5,λz=>Jh nt z,λ_=>Pg.wp_of fP (λm2 w2 r2=>by cases (rP.det r2).1) (λe w2 r2=>by cases (rP.det r2).1;exact cl.er u t)⟩
 have two:∀{q:Int->Prop} {e:Er->Vst->Prop},q m->(putP T.root x wo).wp ⟨zJ (zw s1.nt ns),[],[],900000⟩ (λm1 _=>q m1) e:=λh=>Pg.wp_of fP (λm1 _ r=>by cases (rP.det r).1;exact h) (λ_ _ r=>by cases (rP.det r).1);refine⟨_,rfl,_,rfl,_,rfl,b,l,T.root,x,wo,xs,zw s1.nt ns,rfl,qa10,gx,el10,rl10,hl5,g5,λz=>Jh nt z,λ_=>two λH11 s11=>?_⟩;refine⟨_,rfl,rfl,_,rfl,ifF (by simp) ?_⟩;have el11:=s11 _ _ el10;have rl11:=rl10.keep (Same.tups s11);refine⟨_,rfl,_,rfl,_,rfl,_,rfl,b,l,a,d,T.root,x,wo,xs,zw s1.nt ns,cs,rfl,qa10.same s11,gx,el11,rl11,hl5,g5,vs10.same s11,λz=>Jh nt z,λ_=>two (Pg.wp_of f0 (λm2 w2 r2 H12 s12=>?_) (λe w2 r2=>by cases (r1.det r2).1))⟩;cases (r1.det r2).1;rw[if_pos rfl];refine⟨rfl,_,rfl,ifF (by simp) ?_⟩;have sx:=s11.trans s12;have sF:=sE.trans sx;have el12:=s12 _ _ el11;have rl12:=rl11.keep (Same.tups s12);have qa12:=qa10.same sx;have vs12:=vs10.same sx;have epb12:=sx _ _ epb10;have rb12:=rb10.keep (Same.tups sx);have epn12:=sx _ _ epn;have rN12:=rN.keep (Same.tups sx);clear r2 w2 el11 rl11 s11 s12 sx el10 rl10 qa10 vs10 epb10 rb10 epn rN sE sB sC sA;dsimp only[znh];refine zga (fun σ H'=>(∃ko,σ=[some (.ref a),some (.int T.root),some (.int c),some (.int tw),some (.int num),some (.ref p1),some (.ref b),some (.int m),some (.ref l),some (.ref pb),some (.ref bf),some (.ref pn),ko,none])/\Same H12 H') (λN hN=>?_) ?_
 ·refine⟨_,rfl,szl (show 0<=1000 by decide),λpe hpe=>?_⟩;have s13:Same H12 (upd H12 pe (.lst [])):=zv (Same.refl H12) hpe;have epe:upd H12 pe (.lst []) pe=some (.lst []):=zg;generalize upd H12 pe (.lst [])=H13 at s13 epe;have epn13:=s13 _ _ epn12;refine⟨pn,pe,accN,rfl,rfl,SqL.of epn13,SqL.of epe,_,rfl,?_⟩;refine ifB (λc1=>?_) (λc1=>hN _ _ ⟨⟨_,rfl⟩,s13⟩);have pos:0 < accN.length:=by
   cases accN with
   | nil=>cases c1
   | cons _ _=>exact Nat.succ_pos _
  refine⟨_,rfl,a,d,cs,rfl,vs12.same s13,by omega,λbo dO kO H14 s14 hdo vo lko lenko=>?_⟩;have z0:0<=num / 350 % (accN.length:Int):=Jt _ (by omega);have z1:num / 350 % (accN.length:Int) < (accN.length:Int):=Jo _ (by omega);have hN14:=rN12.keep ((Same.tups s13).trans (Same.tups s14));have lN:=hN14.len;have zl:(num / 350 % (accN.length:Int)).toNat < us.length:=by omega
  have ev:accN[(num / 350 % (accN.length:Int)).toNat]? =some accN[(num / 350 % (accN.length:Int)).toNat]:=List.getElem?_eq_getElem (by omega);have ez:num / 350 % (accN.length:Int)=(((num / 350 % (accN.length:Int)).toNat:Nat):Int):=by omega
  have ai:=zfP ev;rw[<-ez] at ai;have ru:=hN14.at _ _ _ ev (List.getElem?_eq_getElem zl);obtain⟨gu,hu1,hu2,hu3⟩:=inF _ (Jm zl);generalize us[(num / 350 % (accN.length:Int)).toNat]=u at ru gu hu1 hu2 hu3;have gd:=gu.dp;obtain⟨kvo,⟨⟨dxo,fso,eoo,flo⟩,_⟩,_⟩:=vo.vo;refine⟨_,rfl,bo,dxo,fso,rfl,eoo,flo.n2,?_⟩;refine⟨_,rfl,_,rfl,_,_,rfl,rfl,⟨by decide,by decide+kernel⟩,_,rfl,pn,accN,rfl,.inl (SqL.of (s14 _ _ epn13)),_,_,rfl,rfl,by omega,pn,_,_,_,rfl,rfl,SqL.of (s14 _ _ epn13),ai,u,_,rfl,ru,gu.wf,by omega,by omega,λv' H15 s15 rv'=>?_⟩;refine⟨bo,dO,kO,zaj u,v',rfl,vo.same s15,by omega,rv',gu.twin,(λ_=>cl.s),λH16 f16 ft v16=>?_⟩;obtain⟨fT,wT,a1,b1,rT⟩:=zlR r1 f0 lkf rF hF hu1 hu2 hu3 lko ft;have s12o:Same H12 H15:=s13.trans (s14.trans s15);have hdo0:H12 dO=none:=s13.free hdo;have s126:Same H12 H16:=λc o e=>f16 c o (zm e hdo0) (s12o c o e);refine⟨_,rfl,_,rfl,_,rfl,_,rfl,b,l,bo,dO,T.root,x,wo,xs,zw s1.nt ns,_,rfl,qa12.same s126,gx,s126 _ _ el12,rl12.keep (Same.tups s126),hl5,g5,v16,λz=>Jh nt z,λ_=>two (Pg.wp_of fT (λm2 w2 r2=>by cases (rT.det r2).1) (λe w2 r2 H17 s17=>?_))⟩;cases (rT.det r2).1;exact⟨rfl,_,rfl,ifF (by simp[zk5]) (hN _ _ ⟨⟨_,rfl⟩,s126.trans s17⟩)⟩
 rintro σ H18 ⟨⟨ko,rfl⟩,s18⟩;have sG:=sF.trans s18;have el18:=s18 _ _ el12;have rl18:=rl12.keep (Same.tups s18);have qa18:=qa12.same s18;have vs18:=vs12.same s18;have epb18:=s18 _ _ epb12;have rb18:=rb12.keep (Same.tups s18);clear sF el12 rl12 qa12 vs12 epb12 rb12 epn12 rN12 s18 inF;refine⟨_,rfl,λa4 dx4 h4 hx4 n4=>zdF h4 hx4 n4 λd4 H19 s19 hd4 v4=>⟨szl (show 2<=1000 by decide),λpq hpq=>?_⟩⟩;have s20:Same H18 (upd H19 pq (.tup [.ref a,.ref a4])):=zv s19 hpq;have eq20:upd H19 pq (.tup [.ref a,.ref a4]) pq=some (.tup [.ref a,.ref a4]):=zg;have v420:VS (upd H19 pq (.tup [.ref a,.ref a4])) C a4 d4 []:=v4.same (zv (Same.refl H19) hpq);generalize upd H19 pq (.tup [.ref a,.ref a4])=H20 at s20 eq20 v420;refine⟨pq,rfl,⟨_,SqT.of eq20⟩,λpw hpw=>?_⟩;have el20:=s20 _ _ el18;have rl20:=rl18.keep (Same.tups s20);have qa20:=qa18.same s20;have vs20:=vs18.same s20;have gl5:(zw s1.nt ns).dropLast.length<=5000:=by rw[List.length_dropLast];omega
 have gd5:∀t∈(zw s1.nt ns).dropLast,G5 t:=λt ht=>g5 t (List.dropLast_subset _ ht);obtain⟨fV,wV,hV⟩:=zmf r1 f0;have word:∀(kp dk:Addr) (kk:QF) (ps:Addr) (H1:Hp) (Z:L2.VK),VS H1 C kp dk kk->(putP T.root x wo).Fit ⟨[],kk,[],900000⟩->zeF CP H1 b x wo->H1 ps=some (.lst xs.dropLast)->RepL H1 (zw s1.nt ns).dropLast xs.dropLast->
   (∀ww H',Same H1 H'->(zw s1.nt ns≠ []->ww=Str.ofString "refused")->Z (.str ww) H')->zih CP C [.int T.root,.ref b,.ref ps,.ref kp] H1 Z E0:=λkp dk kk ps H1 Z v fk qq eps rps z=>by
  refine⟨b,ps,kp,dk,T.root,x,wo,xs.dropLast,(zw s1.nt ns).dropLast,kk,rfl,qq,gx,eps,rps,gl5,gd5,v,?_,λ_=>?_⟩
  ·intro nz H' s';exact z _ H' s' λ_=>rfl
  ·by_cases he:zw s1.nt ns=[]
   ·have e0:(zw s1.nt ns).dropLast=zw s1.nt ns:=by rw[he];rfl
    rw[e0];exact two (Pg.wp_of fk (λm2 _ _ H' s'=>z _ H' s' λy=>Jh he y) (λe _ _ H' s'=>z _ H' s' λy=>Jh he y))
   ·obtain⟨_,fS,wS,eS,rS⟩:=zjg r1 f0 gc hp he;exact Pg.wp_of fS (λm2 w2 r2=>by cases (rS.det r2).1) (λe _ _ H' s'=>z _ H' s' λ_=>rfl)
 refine zdG (n:=2) (λii acc H'=>Same H20 H'/\H' pw=some (.lst acc)/\acc.length=ii/\(zw s1.nt ns≠ []->acc=List.replicate ii (.str (Str.ofString "refused")))) ⟨zv (Same.refl H20) hpw,zg,rfl,λ_=>rfl⟩ ?_ ?_ ?_ ?_
 ·rintro ii acc H' hi ⟨sm,ep,la,ha⟩;exact⟨[.ref a,.ref a4],[V.ref a,.ref a4][ii],SqT.of (sm _ _ eq20),List.getElem?_eq_getElem hi⟩
 ·rintro acc H' ⟨sm,ep,la,ha⟩;exact⟨_,SqT.of (sm _ _ eq20),Jb 2⟩
 ·rintro ii acc H' y H'' hi ⟨sm,ep,la,ha⟩ ⟨z1,z2⟩;subst z1;have ey:=z2 _ (SqT.of (sm _ _ eq20));obtain⟨kp,dk,kk,ey',vv,fk⟩:∃kp dk kk,y=.ref kp/\VS H'' C kp dk kk/\(putP T.root x wo).Fit ⟨[],kk,[],900000⟩:=by
   rcases(show ii=0\/ii=1 by omega) with rfl | rfl
   ·cases ey;exact⟨a,d,cs,rfl,vs20.same sm,f0⟩
   ·cases ey;exact⟨a4,d4,[],rfl,v420.same sm,fV⟩
  subst ey';refine tt1 ?_;refine⟨_,rfl,_,rfl,_,rfl,_,rfl,_,rfl,l,xs,rfl,SqL.of (sm _ _ el20),λps hps=>?_⟩;rw[zlt];have sp:Same H'' (upd H'' ps (.lst xs.dropLast)):=zv (Same.refl H'') hps;have eps:upd H'' ps (.lst xs.dropLast) ps=some (.lst xs.dropLast):=zg;generalize upd H'' ps (.lst xs.dropLast)=Hp at sp eps;have rdl:RepL Hp (zw s1.nt ns).dropLast xs.dropLast:=by have:=(rl20.keep (Same.tups (sm.trans sp))).takeN (xs.length - 1);rw[List.dropLast_eq_take,List.dropLast_eq_take,<-rl20.len];exact this
  refine⟨_,rfl,?_⟩;dsimp only[tNil,List.cons_append,List.nil_append];refine word kp dk kk ps Hp _ (vv.same sp) fk (qa20.same (sm.trans sp)) eps rdl λww H3 s3 hw=>?_;have ep3:=s3 _ _ (sp _ _ ep);refine⟨ep3,Jg (show acc.length < 1000 by omega) (szl (Jb _)),nxt hi ⟨zbU (sm.trans (sp.trans s3)) hpw,zg,by rw[List.length_append,la];rfl,λy=>?_⟩⟩;rw[hw y,ha y,List.replicate_succ']
 rintro accW H21 ⟨s21,epw,laW,hW⟩;have sH:=sG.trans (s20.trans s21);have el21:=s21 _ _ el20;have rl21:=rl20.keep (Same.tups s21);have qa21:=qa20.same s21;have vs21:=vs20.same s21;have epb21:=s21 _ _ (s20 _ _ epb18);have rb21:=rb18.keep (Same.tups (s20.trans s21));clear word v420 v4 eq20 el20 rl20 qa20 vs20 sG el18 rl18 qa18 vs18 epb18 rb18 s20 s21;dsimp only[zdR];show tIfS _ _ _ _ _ _;refine zql (λbb H'=>bb=false/\Same H21 H') (λN hN=>?_) ?_
 ·refine⟨_,rfl,szl (show 0<=1000 by decide),λpe hpe=>?_⟩;have sz:Same H21 (upd H21 pe (.lst [])):=zv (Same.refl H21) hpe;have epe:upd H21 pe (.lst []) pe=some (.lst []):=zg;generalize upd H21 pe (.lst [])=Hz at sz epe;refine⟨l,pe,xs,rfl,rfl,SqL.of (sz _ _ el21),SqL.of epe,_,rfl,?_⟩;refine ifB (λc1=>?_) (λc1=>?_)
  ·have nw:zw s1.nt ns≠ []:=λz=>by rw[z] at rl21;cases rl21;cases c1
   have eW:=hW nw;refine⟨_,rfl,szl (show 2<=1000 by decide),λpr hpr=>?_⟩;have sy:Same H21 (upd Hz pr (.lst [.str (Str.ofString "refused"),.str (Str.ofString "refused")])):=zv sz hpr;have epr:upd Hz pr (.lst [.str (Str.ofString "refused"),.str (Str.ofString "refused")]) pr=some (.lst [.str (Str.ofString "refused"),.str (Str.ofString "refused")]):=zg;generalize upd Hz pr (.lst [.str (Str.ofString "refused"),.str (Str.ofString "refused")])=Hy at sy epr;have epw2:=sy _ _ epw;rw[eW] at epw2;refine⟨pw,pr,[.str (Str.ofString "refused"),.str (Str.ofString "refused")],rfl,rfl,SqL.of epw2,SqL.of epr,(λx hx=>by
    have:x=.str (Str.ofString "refused"):=by
     rcases List.mem_cons.mp hx with h | h
     ·exact h
     ·exact Ji.mp h
    subst this;exact⟨rfl,by decide⟩),_,rfl,?_⟩
   refine ifF (by simp) ?_;obtain⟨dxa,fs,kv,eo,nl,vo,dr⟩:=(vs21.same sy).thg;refine⟨_,rfl,a,dxa,fs,rfl,eo,nl,a,d,kv,cs,rfl,vo,dr,by omega,λl4 ns4 xs4 H5 s5 hl4 hp4 hs4 el4 rl4=>?_⟩;have en:ns4=ns2:=ze1 (hp4.trans hp2.symm) hs4 hs2;subst en;refine⟨_,rfl,l4,pb,xs4,xs2,zw cs ns4,zw cs ns4,rfl,rfl,SqL.of el4,SqL.of ((sy.trans s5) _ _ epb21),rl4,rb21.keep (Same.tups (sy.trans s5)),d50,_,rfl,hN _ _ ⟨?_,sy.trans s5⟩⟩;rw[(zeD _ _).mpr rfl];rfl
  ·refine ifF (by simp) ?_;obtain⟨dxa,fs,kv,eo,nl,vo,dr⟩:=(vs21.same sz).thg;refine⟨_,rfl,a,dxa,fs,rfl,eo,nl,a,d,kv,cs,rfl,vo,dr,by omega,λl4 ns4 xs4 H5 s5 hl4 hp4 hs4 el4 rl4=>?_⟩;have en:ns4=ns2:=ze1 (hp4.trans hp2.symm) hs4 hs2;subst en;refine⟨_,rfl,l4,pb,xs4,xs2,zw cs ns4,zw cs ns4,rfl,rfl,SqL.of el4,SqL.of ((sz.trans s5) _ _ epb21),rl4,rb21.keep (Same.tups (sz.trans s5)),d50,_,rfl,hN _ _ ⟨?_,sz.trans s5⟩⟩;rw[(zeD _ _).mpr rfl];rfl
 rintro bb H22 ⟨rfl,s22⟩;refine ifF (by simp) ?_;refine⟨_,rfl,_,rfl,_,rfl,λa5 dx5 h5 hx5 n5=>zdF h5 hx5 n5 λd5 H23 s23 hd5 v5=>?_⟩;have s2x:=s22.trans s23;have el23:=s2x _ _ el21;have rl23:=rl21.keep (Same.tups s2x);have tail:∀H24,Same H23 H24->∀N:V->Hp->Prop,(∀H',Same H24 H'->N (.str (if xs.isEmpty then Str.ofString "right" else Str.ofString "wrong")) H')->tOp (rIxL K) (tLst (zku (tC (V.str (Str.ofString "right"))) (zku (tC (V.str (Str.ofString "wrong"))) tNil))) (tCB (λxs H Q=>(∃i,xs=[V.int i]/\Q (V.int i) H)\/∃k,xs=[V.bl k]/\Q (V.int (if k=true then 1 else 0)) H) (zku (tOp (λx y H_1 Q=>∃a b xs,x=V.ref a/\y=V.ref b/\SqL K H_1 a xs/\SqL K H_1 b []/\Q (V.bl !xs.isEmpty) H_1) (tVar 8) (tLst tNil)) tNil))
   [some (V.ref a),some (V.int T.root),some (V.int c),some (V.int tw),some (V.int num),some (V.ref p1),some (V.ref b),some (V.int m),some (V.ref l),some (V.ref pb),some (V.ref bf),some (V.ref pn),ko,some (V.ref pw)] H24 N:=λH24 s24 N hN=>by
  refine⟨szl (show 2<=1000 by decide),λpr hpr=>⟨_,rfl,szl (show 0<=1000 by decide),λpe hpe=>?_⟩⟩;have sr:Same H24 (upd H24 pr (.lst [.str (Str.ofString "right"),.str (Str.ofString "wrong")])):=zv (Same.refl H24) hpr;have er:upd H24 pr (.lst [.str (Str.ofString "right"),.str (Str.ofString "wrong")]) pr=some (.lst [.str (Str.ofString "right"),.str (Str.ofString "wrong")]):=zg;generalize upd H24 pr (.lst [.str (Str.ofString "right"),.str (Str.ofString "wrong")])=Hr at sr er hpe;have se:Same Hr (upd Hr pe (.lst [])):=zv (Same.refl Hr) hpe;have ee:upd Hr pe (.lst []) pe=some (.lst []):=zg;generalize upd Hr pe (.lst [])=He at se ee;have hh:=hN He (sr.trans se);refine⟨l,pe,xs,rfl,rfl,SqL.of ((s24.trans (sr.trans se)) _ _ el23),SqL.of ee,.inr ⟨_,rfl,pr,[.str (Str.ofString "right"),.str (Str.ofString "wrong")],_,.str (if xs.isEmpty then Str.ofString "right" else Str.ofString "wrong"),rfl,rfl,SqL.of (se _ _ er),?_,hh⟩⟩;cases xs <;> rfl
 dsimp only[tNil,List.cons_append,List.nil_append];refine⟨b,l,a5,d5,T.root,x,wo,xs,zw s1.nt ns,[],rfl,qa21.same s2x,gx,el23,rl23,hl5,g5,v5,λz=>Jh nt z,λ_=>two ?_⟩;have lx:=rl23.len;rcases hV with ⟨h0,rV⟩ | ⟨h0,rV⟩
 ·refine Pg.wp_of fV (λm2 w2 r2 H24 s24=>?_) (λe w2 r2=>by cases (rV.det r2).1);cases (rV.det r2).1;rw[if_pos rfl];refine tail H24 s24 _ λH25 s25=>⟨rfl,?_⟩;have ex:xs=[]:=List.eq_nil_of_length_eq_zero (by rw[lx,wl,h0];rfl);subst ex;exact q _ (sH.trans (s2x.trans (s24.trans s25)))
 ·refine Pg.wp_of fV (λm2 w2 r2=>by cases (rV.det r2).1) (λe w2 r2 H24 s24=>?_);cases (rV.det r2).1;refine tail H24 s24 _ λH25 s25=>⟨rfl,?_⟩;cases xs with
  | nil=>exact Jh (List.eq_nil_of_length_eq_zero (by rw[<-wl,<-lx];rfl)) h0
  | cons y ys=>
   have ew:zk5 [] (zw s1.nt ns) .lacks=Str.ofString "wrong" :=by unfold zk5 resS;rw[znL];rfl
   rw[ew];exact q _ (sH.trans (s2x.trans (s24.trans s25)))
end
end Pv
namespace L2
open PySem PySem.Spec PyProof.Rows Px
def zmu {X:Cx}{K:QA}{e:Expr}{f:Str}{pos:Pos}{ta:TE}(hK:X.K=K)(he:PE X e ta)(hb:attributeBase e f X.env (eval e X.env)=eval e X.env):PE X (.Attribute e f pos) (tXG K ta f):=hK ▸ zru he hb
end L2
namespace Pv
open PySem L2
abbrev zdd:Stmt:=top 74
def zbl:zr ["script","twin","keeper","root","cell"] ["script"] (ze zdd):=L2.fsc (by decide+kernel)
abbrev slaw:Stmt:=top 75
def zhr:zr ["script","told","clash","e"] ["script"] (ze slaw):=L2.fsc (by decide+kernel)
def SqL.keepS {K:QA}{H H':Hp}{a:Addr}{xs:QQ}(h:SqL K H a xs)(s:Same H H'):SqL K H' a xs:=by
 rcases h with h | h
 ·rcases h with h | ⟨o,h⟩
  ·exact .inl (.inl (s _ _ h))
  ·exact .inl (.inr ⟨o,s _ _ h⟩)
 ·exact .inr h
def znk (ns:List Int)(lo hi:Option Int):∃ms:List Int,cutV (ns.map V.int) lo hi=ms.map V.int/\ms.length<=ns.length:=by
 refine⟨(ns.drop (HT.sIx ns.length 0 lo)).take (HT.sIx ns.length ns.length hi - HT.sIx ns.length 0 lo),?_,?_⟩
 ·unfold cutV;rw[List.length_map,List.map_take,List.map_drop]
 ·rw[List.length_take,List.length_drop];omega
def zkn (K:QA)(CC:Addr):Sp:=λvs H Q E=>∃(a:Addr) (ns:List Int),vs=[.ref a]/\SqL K H a (ns.map V.int)/\ns.length<=63/\(∀H',Q (.bl true) H')/\Cl CC E
def ziJ (K:QA):Sp:=λvs H Q _=>∃(a:Addr) (ns:List Int),vs=[.ref a]/\SqL K H a (ns.map V.int)/\ns.length<=63/\∀H',Q (.bl true) H'
section
variable {P:Program}{w:World}{K:QA}{mg:QB}{base:Heap}{C CC:Addr}
def zmW (D:Dfn K mg "_law_holds" zdd ["script"]) (zdT:Fn P w K mg base "_law_cell_at" 1 ["script","k"] (znJ K)) (zcT:Mkr P w K mg base "Keeper" C 1 ["self"] (zcv C)) (zi8:FnX P w K mg base "_law_grown" 24 ["keeper","pairs","numbers","twin"] (zkR C CC)) (zim:Fn P w K mg base "_law_turned" 1 ["cell","many"] ziF) (zmj:FnX P w K mg base "_law_one" 30 ["keeper","root","cell","twin"] (zpW C CC)):
  FnX P w K mg base "_law_holds" 31 ["script"] (zkn K CC):=by
 refine D.okX (k:=30) zbl (λvs H Q E h=>?_) (λf cdv A outer s H vs Q E hr h=>?_)
 ·obtain⟨a,ns,rfl,_⟩:=h;rfl
 obtain⟨a,ns,rfl,hS,h63,q,cl⟩:=h;refine⟨_,(zb (zu (i:=1) zbl.nd rfl (Or.inl rfl) (zG zau (zK zdT hr (by omega) (by rfl) (za (pv 0) (za zo zc))) zo))
 (zb (zu (i:=2) zbl.nd rfl (Or.inl rfl) (zfM zcT hr (by omega) (by rfl)))
 (zb (zu (i:=3) zbl.nd rfl (Or.inl rfl) (zaP zi8 hr (by omega) (by rfl) zL (za (pv 2) (za zc9 (za (zK zim hr (by omega) (by rfl) (za (zK zdT hr (by omega) (by rfl) (za (pv 0) (za zo zc))) (za zo zc))) (za (pv 1) zc))))))
 (zb (za1 PassesOwn.leaving rfl (zcn (zcf zdz (pv 0) (zb5 zo) (zb5 zo))) (zZ (i:=4) zbl.nd rfl (Or.inl rfl))
 (zd (zN (zc1 (zah (zaP zmj hr (by omega) (by rfl) zL (za (pv 2) (za (pv 3) (za (pv 4) (za (pv 1) zc)))))))
 (zd (zq zb2))
 zy)))
 (zd (zq zb2)))))),?_⟩
 refine⟨_,rfl,a,ns,0,rfl,hS,Jx 0,λc0=>?_⟩;have ht:c0 % 2=0\/c0 % 2=1:=by omega
 refine⟨_,_,rfl,rfl,(show(0:Int) < 2 by decide),?_⟩;dsimp only[zdR];generalize c0 % 2=tw at ht;refine λka dxa h1 h2 h3=>zdF h1 h2 h3 λd H1 s1 hd v1=>?_;refine⟨_,rfl,λpd hpd=>?_⟩;have s2:Same H1 (upd H1 pd (.dK [])):=zv (Same.refl H1) hpd;have epd:upd H1 pd (.dK []) pd=some (.dK []):=zg;generalize upd H1 pd (.dK [])=H2 at s2 epd;have hpd0:=s1.free hpd;have ndp:d≠pd:=λz=>by obtain⟨kv,⟨_,e⟩,_⟩:=v1.vo;rw[z,hpd] at e;cases e
 refine⟨_,rfl,a,ns,1,rfl,Pv.SqL.keepS hS (s1.trans s2),by decide,λc1=>?_⟩;refine⟨c1,42,rfl,by decide,λr xs H3 s3 er hl hx=>?_⟩;refine⟨_,rfl,ka,d,pd,r,xs,tw,rfl,⟨⟨d,rfl,v1.same (s2.trans s3)⟩,rfl,Jb _⟩,s3 _ _ epd,ndp,er,hl,hx,ht,cl,λT st H4 f4 g4 ct n4=>?_⟩;have s4:Same H H4:=λc o e=>f4 c o (λz=>by
  simp only[List.mem_cons,List.not_mem_nil,or_false] at z;rcases z with z | z
  ·rw[z,hd] at e;cases e
  ·rw[z,hpd0] at e;cases e) ((s1.trans (s2.trans s3)) c o e)
 have rm:=g4.vk.rm;obtain⟨ms,ems,hms⟩:=znk ns (some 2) (some 32);refine⟨_,rfl,_,rfl,_,rfl,a,_,rfl,Pv.SqL.keepS hS s4,λpc hpc=>?_⟩;rw[ems];have s5:=zv (o:=.lst (ms.map V.int)) (Same.refl H4) hpc;have e5:upd H4 pc (.lst (ms.map V.int)) pc=some (.lst (ms.map V.int)):=zg;generalize upd H4 pc (.lst (ms.map V.int))=H5 at s5 e5;refine⟨pc,rfl,⟨_,SqL.of e5⟩,?_⟩;refine zds (xs:=ms.map V.int) (λi σ H'=>∃k4:Option V,σ=[some (.ref a),some (.int tw),some (.ref ka),some (.int T.root),k4]/\Same H5 H') ⟨_,rfl,Same.refl _⟩ ?_ ?_ ?_
 ·rintro i σ H' _ ⟨k4,rfl,sm⟩;exact SqL.of (sm _ _ e5)
 ·rintro i y σ H' hy ⟨k4,rfl,sm⟩;obtain⟨n,_,rfl⟩:=List.mem_map.mp (List.mem_of_getElem? hy);exact⟨_,rfl,_,rfl,_,rfl,_,rfl,ka,d,st,T,n,tw,rfl,⟨(vi_K C).same g4.vk (s5.trans sm),g4.tk,g4.so⟩,ct,by omega,ht,cl,λH6 s6=>⟨_,rfl,ifF rfl ⟨_,rfl,sm.trans s6⟩⟩⟩
 ·rintro σ H' ⟨k4,rfl,sm⟩;exact q H'
def zqy {f:Addr}{fd:FuncData}(F:Fun K "law" "law" slaw f fd) (zi9:FnX P w K mg base "_law_holds" 31 ["script"] (zkn K CC)) (zcD:Fn P w K mg base "seal" 13 ["thing"] zeY) (zdM:mg "Clash" =some (.ref CC)) (xc:XCls K CC) (n1:zE K CC "one") (n2:zE K CC "other")
  (em:PySem.W.exmOne K (.ref CC) (.ref CC)=some true):FnOk P w K mg base CX0 65 f fd ["script"] (ziJ K):=by
 refine F.ok (k:=64) zhr (λvs H Q E h=>?_) (λcdv A outer s H vs Q E hr h=>?_)
 ·obtain⟨a,ns,rfl,_⟩:=h;rfl
 obtain⟨a,ns,rfl,hS,h63,q⟩:=h;refine⟨_,(zb (zu (i:=1) zhr.nd rfl (Or.inl rfl) zb2)
 (zb (zu (i:=2) zhr.nd rfl (Or.inl rfl) zch)
 (zb (znV (i:=3) rfl rfl zhr.nd rfl rfl (by rfl) zdM (λxe pn E hx=>(zd (zu (i:=1) zhr.nd rfl (Or.inl rfl) (zjk zi9 hr (by omega) (by rfl) hx (za (pv 0) zc))))) (λe=>(zd (zu (i:=2) zhr.nd rfl (Or.inl rfl) (zbj (za (zmu (K:=K) rfl (pv 3) (by rfl)) (za (zmu (K:=K) rfl (pv 3) (by rfl)) zc)))))))
 (zb (zN (zB zo4 (pv 2) zch (zA _))
 (zd (zq (zdW (zaF (zei hr) (zH zI (pv 2) zo (λ_ _=>rfl)) (zH zI (pv 2) zo (λ_ _=>rfl)) (zA _)) (zdV (zaF zb0 (zK zcD hr (by omega) (by rfl) (za (zH zI (pv 2) zo (λ_ _=>rfl)) zc)) (zK zcD hr (by omega) (by rfl) (za (zH zI (pv 2) zo (λ_ _=>rfl)) zc)) (zA _))))))
 zy)
 (zd (zq (pv 1))))))),?_⟩
 refine⟨_,rfl,a,ns,rfl,hS,h63,λH1=>?_,λt1 t2 v1 v2 H1 x r1 r2 g1 g2 ne sn ex=>⟨CC,rfl,em,λe he=>?_⟩⟩
 ·refine⟨_,rfl,rfl,_,rfl,ifF rfl ?_⟩;exact⟨_,rfl,q H1⟩
 ·have xe:x≠e:=zm ex he;have ex2:upd H1 e (exO e CC (some x) false) x=some (xdO x [("one",v1),("other",v2)]):=by rw[zk xe];exact ex
  have gd:=g1.dp;have gd2:=g2.dp;have gn:=g1.nd;have gn2:=g2.nd;refine⟨_,rfl,e,CC,false,x,_,v1,rfl,zg,ex2,xc,n1,by rfl,_,rfl,e,CC,false,x,_,v2,rfl,zg,ex2,xc,n2,by rfl,szl (show 2<=1000 by decide),λp hp=>?_⟩;have tk:Tups H1 (upd (upd H1 e (exO e CC (some x) false)) p (.tup [v1,v2])):=(Tups.new he).trans (Tups.new hp);have ra:=r1.keep tk;have rb:=r2.keep tk;have ep:upd (upd H1 e (exO e CC (some x) false)) p (.tup [v1,v2]) p=some (.tup [v1,v2]):=zg;generalize upd (upd H1 e (exO e CC (some x) false)) p (.tup [v1,v2])=H2 at ra rb ep;have et:SqT K H2 p [v1,v2]:=SqT.of ep;refine⟨_,rfl,rfl,_,rfl,ifT rfl ?_⟩;refine⟨_,rfl,p,_,_,_,rfl,rfl,et,rfl,_,rfl,p,_,_,_,rfl,rfl,et,rfl,t1,t2,ra,rb,by omega,_,rfl,ifT (by rw[show eqT t1 t2=false from by cases z:eqT t1 t2 with | true=>exact Jh ((za8 _ _).mp z) ne | false=>rfl];rfl) ?_⟩;refine⟨_,rfl,p,_,_,_,rfl,rfl,et,rfl,t1,v1,rfl,ra,g1.wf,by omega,by omega,λH3 s3=>?_⟩;refine⟨_,rfl,p,_,_,_,rfl,rfl,SqT.of (s3 _ _ ep),rfl,t2,v2,rfl,rb.keep (Same.tups s3),g2.wf,by omega,by omega,λH4 s4=>?_⟩;refine⟨rfl,?_⟩;rw[sn,decide_eq_true rfl];exact q H4
end
section
variable {P:Program}{w:World}{K:QA}{mg:QB}{base:Heap}{CC CN CB:Addr}{t1 t3 t4 t5 t7:Tok}
def zqm (D1:Dfn K mg "node_beneath" zbI ["vault","root","count"]) (zfc:Fn P w K mg base "is_node" 3 ["thing"] zoa) (xB:XP K mg "BadThing" CB) (D4:Dfn K mg "way_to" zfE ["vault","root","key"]) (zj8:Fn P w K mg base "side_of" 21 ["node","key"] zea) (zop:Fn P w K mg base "ends_at" 1 ["way","key"] (zfN K)) (D6:Dfn K mg "hung" zk2 ["vault","way","key","root","more"]) (D7:Dfn K mg "parted" zfC ["vault","way","key","root","count"]) (zj9:Fn P w K mg base "with_tree" 1 ["node","side","root","count"] zes) (zpy:Fn P w K mg base "place_in" 22 ["way","key"] zgo) (D8:Dfn K mg "put" sput ["vault","root","key","worth"]) (D9:Dfn K mg "joined" zfD ["vault","left","right","count"]) (D10:Dfn K mg "cut" scut ["vault","root","key"]) (zeH:Fn P w K mg base "above" 21 ["key","other"] zfS)
  (g1:mg "KEY" =some (.int 0 t1)) (g3:mg "LEFT" =some (.int 2 t3)) (g4:mg "RIGHT" =some (.int 3 t4)) (g5:mg "COUNT" =some (.int 4 t5)) (g7:mg "BENEATH_NONE" =some (.int 301 t7)) (zR:mg "len" =none) (zoq:mg "reversed" =none) {W:Addr} {VR:VRT} (I:VI W VR) (M1:Mt P w K mg base (CX1 P w) W "thing" 2 ["self","number"] (zeB VR CN)) (M2:Mt P w K mg base (CX1 P w) W "lay" 14 ["self","thing"] (zd1 VR CC)) (c:Cls K W):
  FnX P w K mg base "put" 23 ["vault","root","key","worth"] (zhX VR CN CB CC)/\FnX P w K mg base "cut" 23 ["vault","root","key"] (zjw VR CN CB CC):=by
 have f1:FnX P w K mg base "node_beneath" 4 ["vault","root","count"] (zhK VR CN CB CC):=zpb I D1 M1 c zfc xB g5;have f4:=zpu I D4 f1 zj8 g1 g5 g7;have f6:FnX P w K mg base "hung" 22 ["vault","way","key","root","more"] (zfU VR CN CB CC):=zn9 I D6 M2 c zj9 zj8 g5 zoq;have f7:FnX P w K mg base "parted" 22 ["vault","way","key","root","count"] (ze3 VR CN CB CC):=zjm I D7 M2 c zj9 zj8 g5 g3 g4 zoq;have f9:=znf I D9 f1 zeH M2 c zj9 g1 g3 g4 g5 zoq;exact⟨zo3 I D8 f4 zop M2 c f6 f7 zpy g5 g3 g4 zR,zpe I D10 f4 zop f6 f9 g5 g3 g4⟩
end
def len0 {us:QN}(h:us.length=0):us=[]:=List.length_eq_zero_iff.mp h
def len1 {us:QN}(h:us.length=1):∃a,us=[a]:=List.length_eq_one_iff.mp h
def len2 {us:QN}(h:us.length=2):∃a b,us=[a,b]:=by
 cases us with
 | nil=>cases h
 | cons a r=>obtain⟨b,rfl⟩:=len1 (Nat.succ.inj h);exact⟨a,b,rfl⟩
def len3 {us:QN}(h:us.length=3):∃a b c,us=[a,b,c]:=by
 cases us with
 | nil=>cases h
 | cons a r=>obtain⟨b,c,rfl⟩:=len2 (Nat.succ.inj h);exact⟨a,b,c,rfl⟩
def len4 {us:QN}(h:us.length=4):∃a b c d,us=[a,b,c,d]:=by
 cases us with
 | nil=>cases h
 | cons a r=>obtain⟨b,c,d,rfl⟩:=len3 (Nat.succ.inj h);exact⟨a,b,c,d,rfl⟩
def len5 {us:QN}(h:us.length=5):∃a b c d e,us=[a,b,c,d,e]:=by
 cases us with
 | nil=>cases h
 | cons a r=>obtain⟨b,c,d,e,rfl⟩:=len4 (Nat.succ.inj h);exact⟨a,b,c,d,e,rfl⟩
def len6 {us:QN}(h:us.length=6):∃a b c d e f,us=[a,b,c,d,e,f]:=by
 cases us with
 | nil=>cases h
 | cons a r=>obtain⟨b,c,d,e,f,rfl⟩:=len5 (Nat.succ.inj h);exact⟨a,b,c,d,e,f,rfl⟩
def len7 {us:QN}(h:us.length=7):∃a b c d e f g,us=[a,b,c,d,e,f,g]:=by
 cases us with
 | nil=>cases h
 | cons a r=>obtain⟨b,c,d,e,f,g,rfl⟩:=len6 (Nat.succ.inj h);exact⟨a,b,c,d,e,f,g,rfl⟩
def zdX {K:QA}{h:Heap}{mg:QB}(x:Str)(st:Stmt)(ps:QP){f:Addr}{od an:QM}{sl:QJ}{oc kV dc pm cd ct:Value}(X:K.In h)(G:h.Ns mainGlobals mg)
  (a:PySem.W.nsIn K mainGlobals x=some (some (.ref f))) (l:K.lookup f=some ⟨oc,od,.func (PySem.W.fnOf x x (zP st) (zD st) (ze st) .none kV dc pm an cd ct),sl⟩) (c:PySem.W.codeIn K cd x=true) (k:PySem.W.keepIn K (.ref f)=true)
  (b:∀(kV doc pm:Value) (an:QM) (cdv ct:Value) (us:QN),us.length=ps.length->bindArgs (PySem.W.fnOf x x (zP st) (zD st) (ze st) .none kV doc pm an cdv ct) ⟨us,[]⟩=pure (ps.zip us)):Dfn K mg x st ps:=
 ⟨_,_,zcc l c k,(zcc l c k).binds b,PySem.W.mg_of X G a⟩
def dfn1 {K:QA}{h:Heap}{mg:QB}{x:Str}{st:Stmt}{ps:QP}{f:Addr}{od an:QM}{sl:QJ}{oc kV dc pm cd ct:Value}(X:K.In h)(G:h.Ns mainGlobals mg)(hl:ps.length=1)
  (a:PySem.W.nsIn K mainGlobals x=some (some (.ref f))) (l:K.lookup f=some ⟨oc,od,.func (PySem.W.fnOf x x (zP st) (zD st) (ze st) .none kV dc pm an cd ct),sl⟩) (c:PySem.W.codeIn K cd x=true) (k:PySem.W.keepIn K (.ref f)=true)
  (b:∀(kV doc pm:Value) (an:QM) (cdv ct u0:Value),bindArgs (PySem.W.fnOf x x (zP st) (zD st) (ze st) .none kV doc pm an cdv ct) ⟨[u0],[]⟩=pure (ps.zip [u0])):Dfn K mg x st ps:=
 zdX x st ps X G a l c k λ_ _ _ _ _ _ us h=>by rw[hl] at h;obtain⟨_,rfl⟩:=len1 h;exact b ..
def dfn2 {K:QA}{h:Heap}{mg:QB}{x:Str}{st:Stmt}{ps:QP}{f:Addr}{od an:QM}{sl:QJ}{oc kV dc pm cd ct:Value}(X:K.In h)(G:h.Ns mainGlobals mg)(hl:ps.length=2)
  (a:PySem.W.nsIn K mainGlobals x=some (some (.ref f))) (l:K.lookup f=some ⟨oc,od,.func (PySem.W.fnOf x x (zP st) (zD st) (ze st) .none kV dc pm an cd ct),sl⟩) (c:PySem.W.codeIn K cd x=true) (k:PySem.W.keepIn K (.ref f)=true)
  (b:∀(kV doc pm:Value) (an:QM) (cdv ct u0 u1:Value),bindArgs (PySem.W.fnOf x x (zP st) (zD st) (ze st) .none kV doc pm an cdv ct) ⟨[u0,u1],[]⟩=pure (ps.zip [u0,u1])):Dfn K mg x st ps:=
 zdX x st ps X G a l c k λ_ _ _ _ _ _ us h=>by rw[hl] at h;obtain⟨_,_,rfl⟩:=len2 h;exact b ..
def dfn3 {K:QA}{h:Heap}{mg:QB}{x:Str}{st:Stmt}{ps:QP}{f:Addr}{od an:QM}{sl:QJ}{oc kV dc pm cd ct:Value}(X:K.In h)(G:h.Ns mainGlobals mg)(hl:ps.length=3)
  (a:PySem.W.nsIn K mainGlobals x=some (some (.ref f))) (l:K.lookup f=some ⟨oc,od,.func (PySem.W.fnOf x x (zP st) (zD st) (ze st) .none kV dc pm an cd ct),sl⟩) (c:PySem.W.codeIn K cd x=true) (k:PySem.W.keepIn K (.ref f)=true)
  (b:∀(kV doc pm:Value) (an:QM) (cdv ct u0 u1 u2:Value),bindArgs (PySem.W.fnOf x x (zP st) (zD st) (ze st) .none kV doc pm an cdv ct) ⟨[u0,u1,u2],[]⟩=pure (ps.zip [u0,u1,u2])):Dfn K mg x st ps:=
 zdX x st ps X G a l c k λ_ _ _ _ _ _ us h=>by rw[hl] at h;obtain⟨_,_,_,rfl⟩:=len3 h;exact b ..
def dfn4 {K:QA}{h:Heap}{mg:QB}{x:Str}{st:Stmt}{ps:QP}{f:Addr}{od an:QM}{sl:QJ}{oc kV dc pm cd ct:Value}(X:K.In h)(G:h.Ns mainGlobals mg)(hl:ps.length=4)
  (a:PySem.W.nsIn K mainGlobals x=some (some (.ref f))) (l:K.lookup f=some ⟨oc,od,.func (PySem.W.fnOf x x (zP st) (zD st) (ze st) .none kV dc pm an cd ct),sl⟩) (c:PySem.W.codeIn K cd x=true) (k:PySem.W.keepIn K (.ref f)=true)
  (b:∀(kV doc pm:Value) (an:QM) (cdv ct u0 u1 u2 u3:Value),bindArgs (PySem.W.fnOf x x (zP st) (zD st) (ze st) .none kV doc pm an cdv ct) ⟨[u0,u1,u2,u3],[]⟩=pure (ps.zip [u0,u1,u2,u3])):Dfn K mg x st ps:=
 zdX x st ps X G a l c k λ_ _ _ _ _ _ us h=>by rw[hl] at h;obtain⟨_,_,_,_,rfl⟩:=len4 h;exact b ..
def dfn5 {K:QA}{h:Heap}{mg:QB}{x:Str}{st:Stmt}{ps:QP}{f:Addr}{od an:QM}{sl:QJ}{oc kV dc pm cd ct:Value}(X:K.In h)(G:h.Ns mainGlobals mg)(hl:ps.length=5)
  (a:PySem.W.nsIn K mainGlobals x=some (some (.ref f))) (l:K.lookup f=some ⟨oc,od,.func (PySem.W.fnOf x x (zP st) (zD st) (ze st) .none kV dc pm an cd ct),sl⟩) (c:PySem.W.codeIn K cd x=true) (k:PySem.W.keepIn K (.ref f)=true)
  (b:∀(kV doc pm:Value) (an:QM) (cdv ct u0 u1 u2 u3 u4:Value),bindArgs (PySem.W.fnOf x x (zP st) (zD st) (ze st) .none kV doc pm an cdv ct) ⟨[u0,u1,u2,u3,u4],[]⟩=pure (ps.zip [u0,u1,u2,u3,u4])):Dfn K mg x st ps:=
 zdX x st ps X G a l c k λ_ _ _ _ _ _ us h=>by rw[hl] at h;obtain⟨_,_,_,_,_,rfl⟩:=len5 h;exact b ..
def dfn6 {K:QA}{h:Heap}{mg:QB}{x:Str}{st:Stmt}{ps:QP}{f:Addr}{od an:QM}{sl:QJ}{oc kV dc pm cd ct:Value}(X:K.In h)(G:h.Ns mainGlobals mg)(hl:ps.length=6)
  (a:PySem.W.nsIn K mainGlobals x=some (some (.ref f))) (l:K.lookup f=some ⟨oc,od,.func (PySem.W.fnOf x x (zP st) (zD st) (ze st) .none kV dc pm an cd ct),sl⟩) (c:PySem.W.codeIn K cd x=true) (k:PySem.W.keepIn K (.ref f)=true)
  (b:∀(kV doc pm:Value) (an:QM) (cdv ct u0 u1 u2 u3 u4 u5:Value),bindArgs (PySem.W.fnOf x x (zP st) (zD st) (ze st) .none kV doc pm an cdv ct) ⟨[u0,u1,u2,u3,u4,u5],[]⟩=pure (ps.zip [u0,u1,u2,u3,u4,u5])):Dfn K mg x st ps:=
 zdX x st ps X G a l c k λ_ _ _ _ _ _ us h=>by rw[hl] at h;obtain⟨_,_,_,_,_,_,rfl⟩:=len6 h;exact b ..
def dfn7 {K:QA}{h:Heap}{mg:QB}{x:Str}{st:Stmt}{ps:QP}{f:Addr}{od an:QM}{sl:QJ}{oc kV dc pm cd ct:Value}(X:K.In h)(G:h.Ns mainGlobals mg)(hl:ps.length=7)
  (a:PySem.W.nsIn K mainGlobals x=some (some (.ref f))) (l:K.lookup f=some ⟨oc,od,.func (PySem.W.fnOf x x (zP st) (zD st) (ze st) .none kV dc pm an cd ct),sl⟩) (c:PySem.W.codeIn K cd x=true) (k:PySem.W.keepIn K (.ref f)=true)
  (b:∀(kV doc pm:Value) (an:QM) (cdv ct u0 u1 u2 u3 u4 u5 u6:Value),bindArgs (PySem.W.fnOf x x (zP st) (zD st) (ze st) .none kV doc pm an cdv ct) ⟨[u0,u1,u2,u3,u4,u5,u6],[]⟩=pure (ps.zip [u0,u1,u2,u3,u4,u5,u6])):Dfn K mg x st ps:=
 zdX x st ps X G a l c k λ_ _ _ _ _ _ us h=>by rw[hl] at h;obtain⟨_,_,_,_,_,_,_,rfl⟩:=len7 h;exact b ..
def zbi {K:QA}{h:Heap}{mg:QB}{x:Str}{i:Int}{t:Tok}(X:K.In h)(G:h.Ns mainGlobals mg)(a:PySem.W.nsIn K mainGlobals x=some (some (.int i t))):∃t,mg x=some (.int i t):=⟨t,PySem.W.mg_of X G a⟩
def zqS {l:PySem.W.OpenLaw}{w:World}{K:QA}{h:Heap}{mg:QB}{fa f:Addr}{od an:QM}{sl:QJ}{oc kV dc pm cd ct:Value}(X:K.In h)(G:h.Ns mainGlobals mg)(hfa:mg "law" =some (.ref fa))
  (a:PySem.W.nsIn K mainGlobals "law" =some (some (.ref f))) (lk:K.lookup f=some ⟨oc,od,.func (PySem.W.fnOf "law" "law" (zP slaw) (zD slaw) (ze slaw) .none kV dc pm an cd ct),sl⟩) (c:PySem.W.codeIn K cd "law" =true) (k:PySem.W.keepIn K (.ref f)=true)
  (ok:∀(base:Heap) (fd:FuncData),Fun K "law" "law" slaw f fd->FnOk l.prog w K mg base CX0 65 f fd ["script"] (ziJ K)):
  ∃fd:FuncData,(∀(s:Shared) (v:Value),BindsTo s fd ⟨[v],[]⟩ [("script",v)])/\∀base:Heap,K.In base->base.Ns mainGlobals mg->FnOk l.prog w K mg base CX0 65 fa fd ["script"] (ziJ K):=by
 have e:=hfa.symm.trans (PySem.W.mg_of X G a);cases e;exact⟨PySem.W.fnOf "law" "law" (zP slaw) (zD slaw) (ze slaw) .none kV dc pm an cd ct,λs v=>.of_eq rfl,λbase _ _=>ok base _ (zcc lk c k)⟩
def walk {l:PySem.W.OpenLaw}{q:Program}{loose:QP}{XP:(Str->Option Value)->Heap->Prop}{YP:World->Heap->Prop}{d:DefRec}{K:Params->QA}(hn:l.most=some 63)(hdf:d.params.defaults=[])
  (hY:∀(w:World) (h:Heap),YP w h->(K w.params).In h)
  (F:∀(w:World) (mg:QB) (fa:Addr) (h:Heap),(K w.params).In h->h.Ns mainGlobals mg->mg d.name=some (.ref fa)->
   ∃fd:FuncData,(∀(s:Shared) (u:Value),BindsTo s fd ⟨[u],[]⟩ [("script",u)])/\∀base:Heap,(K w.params).In base->base.Ns mainGlobals mg->FnOk l.prog w (K w.params) mg base CX0 65 fa fd ["script"] (ziJ (K w.params))):
  PySem.W.WalkO q loose XP YP l.row.toRowW d [] (λf vs=>PySem.call f vs):=
 L2.zo8 (n:=63) (k:=65) (x:= "script") (CX:=λ_=>CX0) (sp:=λw=>ziJ (K w.params)) hn (by decide) hdf ⟨rfl,by decide,by decide⟩ hY F (λ_ _ a ns hl _ hS=>⟨a,ns,rfl,hS,hl,λ_=>rfl⟩) λ_ _ _ _ _ z=>z
end Pv
open PySem PySem.W PyProof.Rows
set_option maxRecDepth 100000 in
set_option maxHeartbeats 0 in
theorem PySem.Challenge.cw_papervault_k50_shown_where_the_keeper_fa_holds : PySem.Challenge.rw_papervault_k50_shown_where_the_keeper_fa.Holds := by
 refine holds_law Pv.said λsaid=>?_;refine holds_open (q:=Pv.VQ) (loose:=[]) (XP:=XL Pv.VQ []) (YP:=InK Pv.KK) Pv.left (InK.of Pv.addrs) InK.keeps (λs e=>xl_of s (Jy.mp e).1) XL.keeps (by rfl) (by rfl) (by rfl) (λs e=>recFacts_of (Jy.mp e).2) (by rfl) said (by decide+kernel) ⟨rfl,rfl,rfl,rfl,rfl,by decide+kernel⟩ ?hw ?hc
 (case hw=>w_witness2)
 k_fill
 refine Pv.walk (l:=PySem.Challenge.rw_papervault_k50_shown_where_the_keeper_fa) rfl rfl (λw h Y=>Y) ?F
 case F=>
  intro w mg fa h KX G hmg;have zq5:L2.Dfn (L2.KOf KX) mg "seal" Pv.znp ["thing"]:=by dsimp only[L2.KOf];refine' Pv.dfn1 KX G rfl ?a ?l ?c ?k λ_ _ _ _ _ _ _=>rfl;case a | l | c | k=>k_is
  have zpz:L2.Dfn (L2.KOf KX) mg "codes" Pv.zju ["thing"]:=by dsimp only[L2.KOf];refine' Pv.dfn1 KX G rfl ?a ?l ?c ?k λ_ _ _ _ _ _ _=>rfl;case a | l | c | k=>k_is
  have zja:L2.Dfn (L2.KOf KX) mg "number_of" Pv.zd6 ["signs"]:=by dsimp only[L2.KOf];refine' Pv.dfn1 KX G rfl ?a ?l ?c ?k λ_ _ _ _ _ _ _=>rfl;case a | l | c | k=>k_is
  have zgY:L2.Dfn (L2.KOf KX) mg "is_whole" Pv.zdH ["value"]:=by dsimp only[L2.KOf];refine' Pv.dfn1 KX G rfl ?a ?l ?c ?k λ_ _ _ _ _ _ _=>rfl;case a | l | c | k=>k_is
  have zka:L2.Dfn (L2.KOf KX) mg "is_thing" Pv.zeU ["thing"]:=by dsimp only[L2.KOf];refine' Pv.dfn1 KX G rfl ?a ?l ?c ?k λ_ _ _ _ _ _ _=>rfl;case a | l | c | k=>k_is
  have zeJ:L2.Dfn (L2.KOf KX) mg "is_thing_within" Pv.zbD ["thing","deep"]:=by dsimp only[L2.KOf];refine' Pv.dfn2 KX G rfl ?a ?l ?c ?k λ_ _ _ _ _ _ _ _=>rfl;case a | l | c | k=>k_is
  have zeK:L2.Dfn (L2.KOf KX) mg "is_tuple_within" Pv.zaU ["parts","deep"]:=by dsimp only[L2.KOf];refine' Pv.dfn2 KX G rfl ?a ?l ?c ?k λ_ _ _ _ _ _ _ _=>rfl;case a | l | c | k=>k_is
  have zc8:L2.Dfn (L2.KOf KX) mg "has_signs_of_things" Pv.zaN ["text"]:=by dsimp only[L2.KOf];refine' Pv.dfn1 KX G rfl ?a ?l ?c ?k λ_ _ _ _ _ _ _=>rfl;case a | l | c | k=>k_is
  have zmk:L2.Dfn (L2.KOf KX) mg "kind_of" Pv.zgm ["thing"]:=by dsimp only[L2.KOf];refine' Pv.dfn1 KX G rfl ?a ?l ?c ?k λ_ _ _ _ _ _ _=>rfl;case a | l | c | k=>k_is
  have zpA:L2.Dfn (L2.KOf KX) mg "ahead" Pv.zji ["one","other"]:=by dsimp only[L2.KOf];refine' Pv.dfn2 KX G rfl ?a ?l ?c ?k λ_ _ _ _ _ _ _ _=>rfl;case a | l | c | k=>k_is
  have zfh:L2.Dfn (L2.KOf KX) mg "is_tuple_ahead" Pv.zbb ["one","other"]:=by dsimp only[L2.KOf];refine' Pv.dfn2 KX G rfl ?a ?l ?c ?k λ_ _ _ _ _ _ _ _=>rfl;case a | l | c | k=>k_is
  have zor:L2.Dfn (L2.KOf KX) mg "rising" Pv.zh9 ["laid"]:=by dsimp only[L2.KOf];refine' Pv.dfn1 KX G rfl ?a ?l ?c ?k λ_ _ _ _ _ _ _=>rfl;case a | l | c | k=>k_is
  have zdN:L2.Dfn (L2.KOf KX) mg "answer_with_paper" Pv.zbc ["keeper","root","ask"]:=by dsimp only[L2.KOf];refine' Pv.dfn3 KX G rfl ?a ?l ?c ?k λ_ _ _ _ _ _ _ _ _=>rfl;case a | l | c | k=>k_is
  have zml:L2.Dfn (L2.KOf KX) mg "checked" Pv.zfZ ["root","ask","paper"]:=by dsimp only[L2.KOf];refine' Pv.dfn3 KX G rfl ?a ?l ?c ?k λ_ _ _ _ _ _ _ _ _=>rfl;case a | l | c | k=>k_is
  have zgZ:L2.Dfn (L2.KOf KX) mg "clashes_with" Pv.zcA ["keeper","number","thing"]:=by dsimp only[L2.KOf];refine' Pv.dfn3 KX G rfl ?a ?l ?c ?k λ_ _ _ _ _ _ _ _ _=>rfl;case a | l | c | k=>k_is
  have zkb:L2.Dfn (L2.KOf KX) mg "clash_of" Pv.zeL ["paper","keeper"]:=by dsimp only[L2.KOf];refine' Pv.dfn2 KX G rfl ?a ?l ?c ?k λ_ _ _ _ _ _ _ _=>rfl;case a | l | c | k=>k_is
  have zpB:L2.Dfn (L2.KOf KX) mg "shown" Pv.zj2 ["root","ask","paper","keeper"]:=by dsimp only[L2.KOf];refine' Pv.dfn4 KX G rfl ?a ?l ?c ?k λ_ _ _ _ _ _ _ _ _ _=>rfl;case a | l | c | k=>k_is
  have zg0:L2.Dfn (L2.KOf KX) mg "node_beneath" Pv.zbI ["vault","root","count"]:=by dsimp only[L2.KOf];refine' Pv.dfn3 KX G rfl ?a ?l ?c ?k λ_ _ _ _ _ _ _ _ _=>rfl;case a | l | c | k=>k_is
  have zmm:L2.Dfn (L2.KOf KX) mg "is_node" Pv.zf5 ["thing"]:=by dsimp only[L2.KOf];refine' Pv.dfn1 KX G rfl ?a ?l ?c ?k λ_ _ _ _ _ _ _=>rfl;case a | l | c | k=>k_is
  have zmn:L2.Dfn (L2.KOf KX) mg "is_root" Pv.zf3 ["thing"]:=by dsimp only[L2.KOf];refine' Pv.dfn1 KX G rfl ?a ?l ?c ?k λ_ _ _ _ _ _ _=>rfl;case a | l | c | k=>k_is
  have zq6:L2.Dfn (L2.KOf KX) mg "rank" Pv.znQ ["key"]:=by dsimp only[L2.KOf];refine' Pv.dfn1 KX G rfl ?a ?l ?c ?k λ_ _ _ _ _ _ _=>rfl;case a | l | c | k=>k_is
  have zpC:L2.Dfn (L2.KOf KX) mg "above" Pv.zjC ["key","other"]:=by dsimp only[L2.KOf];refine' Pv.dfn2 KX G rfl ?a ?l ?c ?k λ_ _ _ _ _ _ _ _=>rfl;case a | l | c | k=>k_is
  have zmo:L2.Dfn (L2.KOf KX) mg "side_of" Pv.zgg ["node","key"]:=by dsimp only[L2.KOf];refine' Pv.dfn2 KX G rfl ?a ?l ?c ?k λ_ _ _ _ _ _ _ _=>rfl;case a | l | c | k=>k_is
  have zos:L2.Dfn (L2.KOf KX) mg "way_to" Pv.zfE ["vault","root","key"]:=by dsimp only[L2.KOf];refine' Pv.dfn3 KX G rfl ?a ?l ?c ?k λ_ _ _ _ _ _ _ _ _=>rfl;case a | l | c | k=>k_is
  have zmp:L2.Dfn (L2.KOf KX) mg "ends_at" Pv.zf8 ["way","key"]:=by dsimp only[L2.KOf];refine' Pv.dfn2 KX G rfl ?a ?l ?c ?k λ_ _ _ _ _ _ _ _=>rfl;case a | l | c | k=>k_is
  have zjb:L2.Dfn (L2.KOf KX) mg "with_tree" Pv.zd4 ["node","side","root","count"]:=by dsimp only[L2.KOf];refine' Pv.dfn4 KX G rfl ?a ?l ?c ?k λ_ _ _ _ _ _ _ _ _ _=>rfl;case a | l | c | k=>k_is
  have zq7:L2.Dfn (L2.KOf KX) mg "hung" Pv.zk2 ["vault","way","key","root","more"]:=by dsimp only[L2.KOf];refine' Pv.dfn5 KX G rfl ?a ?l ?c ?k λ_ _ _ _ _ _ _ _ _ _ _=>rfl;case a | l | c | k=>k_is
  have zot:L2.Dfn (L2.KOf KX) mg "parted" Pv.zfC ["vault","way","key","root","count"]:=by dsimp only[L2.KOf];refine' Pv.dfn5 KX G rfl ?a ?l ?c ?k λ_ _ _ _ _ _ _ _ _ _ _=>rfl;case a | l | c | k=>k_is
  have zkc:L2.Dfn (L2.KOf KX) mg "place_in" Pv.ze9 ["way","key"]:=by dsimp only[L2.KOf];refine' Pv.dfn2 KX G rfl ?a ?l ?c ?k λ_ _ _ _ _ _ _ _=>rfl;case a | l | c | k=>k_is
  have zrQ:L2.Dfn (L2.KOf KX) mg "put" Pv.sput ["vault","root","key","worth"]:=by dsimp only[L2.KOf];refine' Pv.dfn4 KX G rfl ?a ?l ?c ?k λ_ _ _ _ _ _ _ _ _ _=>rfl;case a | l | c | k=>k_is
  have zrR:L2.Dfn (L2.KOf KX) mg "cut" Pv.scut ["vault","root","key"]:=by dsimp only[L2.KOf];refine' Pv.dfn3 KX G rfl ?a ?l ?c ?k λ_ _ _ _ _ _ _ _ _=>rfl;case a | l | c | k=>k_is
  have zou:L2.Dfn (L2.KOf KX) mg "joined" Pv.zfD ["vault","left","right","count"]:=by dsimp only[L2.KOf];refine' Pv.dfn4 KX G rfl ?a ?l ?c ?k λ_ _ _ _ _ _ _ _ _ _=>rfl;case a | l | c | k=>k_is
  have zg1:L2.Dfn (L2.KOf KX) mg "_law_cell_at" Pv.zcz ["script","k"]:=by dsimp only[L2.KOf];refine' Pv.dfn2 KX G rfl ?a ?l ?c ?k λ_ _ _ _ _ _ _ _=>rfl;case a | l | c | k=>k_is
  have zg7:L2.Dfn (L2.KOf KX) mg "_law_turned" Pv.zcU ["cell","many"]:=by dsimp only[L2.KOf];refine' Pv.dfn2 KX G rfl ?a ?l ?c ?k λ_ _ _ _ _ _ _ _=>rfl;case a | l | c | k=>k_is
  have zkd:L2.Dfn (L2.KOf KX) mg "_law_key" Pv.zeQ ["number","twin"]:=by dsimp only[L2.KOf];refine' Pv.dfn2 KX G rfl ?a ?l ?c ?k λ_ _ _ _ _ _ _ _=>rfl;case a | l | c | k=>k_is
  have zin:L2.Dfn (L2.KOf KX) mg "_law_worth" Pv.zdc ["number","twin"]:=by dsimp only[L2.KOf];refine' Pv.dfn2 KX G rfl ?a ?l ?c ?k λ_ _ _ _ _ _ _ _=>rfl;case a | l | c | k=>k_is
  have zio:L2.Dfn (L2.KOf KX) mg "_law_grown" Pv.zde ["keeper","pairs","numbers","twin"]:=by dsimp only[L2.KOf];refine' Pv.dfn4 KX G rfl ?a ?l ?c ?k λ_ _ _ _ _ _ _ _ _ _=>rfl;case a | l | c | k=>k_is
  have zg2:L2.Dfn (L2.KOf KX) mg "_law_twinned" Pv.zcB ["one"]:=by dsimp only[L2.KOf];refine' Pv.dfn1 KX G rfl ?a ?l ?c ?k λ_ _ _ _ _ _ _=>rfl;case a | l | c | k=>k_is
  have zjc:L2.Dfn (L2.KOf KX) mg "_law_copy" Pv.zdU ["keeper"]:=by dsimp only[L2.KOf];refine' Pv.dfn1 KX G rfl ?a ?l ?c ?k λ_ _ _ _ _ _ _=>rfl;case a | l | c | k=>k_is
  have zke:L2.Dfn (L2.KOf KX) mg "_law_one" Pv.zeP ["keeper","root","cell","twin"]:=by dsimp only[L2.KOf];refine' Pv.dfn4 KX G rfl ?a ?l ?c ?k λ_ _ _ _ _ _ _ _ _ _=>rfl;case a | l | c | k=>k_is
  have ziq:L2.Dfn (L2.KOf KX) mg "_law_holds" Pv.zdd ["script"]:=by dsimp only[L2.KOf];refine' Pv.dfn1 KX G rfl ?a ?l ?c ?k λ_ _ _ _ _ _ _=>rfl;case a | l | c | k=>k_is
  have zll:mg "abs" =none:=by
   refine' PySem.W.mg_none_of KX G ?z
   (case z=>k_is)
  have zfb:mg "bool" =none:=by
   refine' PySem.W.mg_none_of KX G ?z
   (case z=>k_is)
  have zdw:mg "enumerate" =none:=by
   refine' PySem.W.mg_none_of KX G ?z
   (case z=>k_is)
  have zbr:mg "int" =none:=by
   refine' PySem.W.mg_none_of KX G ?z
   (case z=>k_is)
  have zt:mg "isinstance" =none:=by
   refine' PySem.W.mg_none_of KX G ?z
   (case z=>k_is)
  have zR:mg "len" =none:=by
   refine' PySem.W.mg_none_of KX G ?z
   (case z=>k_is)
  have zj7:mg "list" =none:=by
   refine' PySem.W.mg_none_of KX G ?z
   (case z=>k_is)
  have zoo:mg "min" =none:=by
   refine' PySem.W.mg_none_of KX G ?z
   (case z=>k_is)
  have m_ord:mg "ord" =none:=by
   refine' PySem.W.mg_none_of KX G ?z
   (case z=>k_is)
  have zbO:mg "range" =none:=by
   refine' PySem.W.mg_none_of KX G ?z
   (case z=>k_is)
  have zbf:mg "reversed" =none:=by
   refine' PySem.W.mg_none_of KX G ?z
   (case z=>k_is)
  have zgU:mg "sorted" =none:=by
   refine' PySem.W.mg_none_of KX G ?z
   (case z=>k_is)
  have zdv:mg "str" =none:=by
   refine' PySem.W.mg_none_of KX G ?z
   (case z=>k_is)
  have zay:mg "tuple" =none:=by
   refine' PySem.W.mg_none_of KX G ?z
   (case z=>k_is)
  have zhB:mg "zip" =none:=by
   refine' PySem.W.mg_none_of KX G ?z
   (case z=>k_is)
  have zaT:∃t,mg "BENEATH_NONE" =some (.int 301 t):=by
   refine' Pv.zbi KX G ?z
   (case z=>k_is)
  obtain⟨zov,zaT⟩:=zaT;have zU:∃t,mg "COUNT" =some (.int 4 t):=by
   refine' Pv.zbi KX G ?z
   (case z=>k_is)
  obtain⟨zrY,zU⟩:=zU;have zaM:∃t,mg "KEY" =some (.int 0 t):=by
   refine' Pv.zbi KX G ?z
   (case z=>k_is)
  obtain⟨zr6,zaM⟩:=zaM;have zao:∃t,mg "LEFT" =some (.int 2 t):=by
   refine' Pv.zbi KX G ?z
   (case z=>k_is)
  obtain⟨zr2,zao⟩:=zao;have zbX:∃t,mg "MOST_DEEP" =some (.int 5 t):=by
   refine' Pv.zbi KX G ?z
   (case z=>k_is)
  obtain⟨zp4,zbX⟩:=zbX;have zbs:∃t,mg "MOST_NODES" =some (.int 300 t):=by
   refine' Pv.zbi KX G ?z
   (case z=>k_is)
  obtain⟨zpD,zbs⟩:=zbs;have zas:∃t,mg "MOST_PARTS" =some (.int 40 t):=by
   refine' Pv.zbi KX G ?z
   (case z=>k_is)
  obtain⟨zpE,zas⟩:=zas;have zaZ:∃t,mg "MOST_SIGNS" =some (.int 60 t):=by
   refine' Pv.zbi KX G ?z
   (case z=>k_is)
  obtain⟨zpF,zaZ⟩:=zaZ;have zcS:∃t,mg "PERCENT" =some (.int 37 t):=by
   refine' Pv.zbi KX G ?z
   (case z=>k_is)
  obtain⟨zrn,zcS⟩:=zcS;have zaa:∃t,mg "RIGHT" =some (.int 3 t):=by
   refine' Pv.zbi KX G ?z
   (case z=>k_is)
  obtain⟨zrZ,zaa⟩:=zaa;have zb8:∃t,mg "WORTH" =some (.int 1 t):=by
   refine' Pv.zbi KX G ?z
   (case z=>k_is)
  obtain⟨zr0,zb8⟩:=zb8;obtain⟨CK,cK,nL,dI,dR,dL,dT,dTs⟩:∃C,L2.Cls (L2.KOf KX) C/\L2.zE (L2.KOf KX) C "laid" /\L2.Mkd (L2.KOf KX) mg "Keeper" C "Vault.__init__" Pv.zaf ["self"]/\L2.Mdf (L2.KOf KX) C "refuse_clash" "Vault.refuse_clash" Pv.zQ ["self","number","thing"]/\L2.Mdf (L2.KOf KX) C "lay" "Vault.lay" Pv.zbE ["self","thing"]/\L2.Mdf (L2.KOf KX) C "thing" "Vault.thing" Pv.zaE ["self","number"]/\L2.Mdf (L2.KOf KX) C "things" "Keeper.things" Pv.zbo ["self"]:=by
   dsimp only[L2.KOf];refine' L2.zcw KX (x:= "Keeper") ?n ⟨?c0,?c1,?c2,?c3,?c4,?c5,?c6⟩
   (case n=>k_is)
   (case c0=>refine' L2.zic ?a ?b ?c ?d;(case a | b | c | d=>k_is))
   (case c1=>unfold L2.zE;k_is)
   (case c2=>refine' L2.zif (qual:= "Vault.__init__") (st:=Pv.zaf) (ps:=["self"]) KX G ?n ?mk ?a ?fn ?l ?c ?k ?kc ?b;(case n | mk | a | fn | l | c | k | kc=>k_is);(case b=>intro _ _ _ _ _ _ us hl;obtain⟨_,rfl⟩:=Pv.len1 hl;rfl))
   (case c3=>refine' L2.zbY (m:= "refuse_clash") (qual:= "Vault.refuse_clash") (st:=Pv.zQ) (ps:=["self","number","thing"]) ?a ?fn ?l ?c ?k ?b;(case a | fn | l | c | k=>k_is);(case b=>intro _ _ _ _ _ _ us hl;obtain⟨_,_,_,rfl⟩:=Pv.len3 hl;rfl))
   (case c4=>refine' L2.zbY (m:= "lay") (qual:= "Vault.lay") (st:=Pv.zbE) (ps:=["self","thing"]) ?a ?fn ?l ?c ?k ?b;(case a | fn | l | c | k=>k_is);(case b=>intro _ _ _ _ _ _ us hl;obtain⟨_,_,rfl⟩:=Pv.len2 hl;rfl))
   (case c5=>refine' L2.zbY (m:= "thing") (qual:= "Vault.thing") (st:=Pv.zaE) (ps:=["self","number"]) ?a ?fn ?l ?c ?k ?b;(case a | fn | l | c | k=>k_is);(case b=>intro _ _ _ _ _ _ us hl;obtain⟨_,_,rfl⟩:=Pv.len2 hl;rfl))
   (case c6=>refine' L2.zbY (m:= "things") (qual:= "Keeper.things") (st:=Pv.zbo) (ps:=["self"]) ?a ?fn ?l ?c ?k ?b;(case a | fn | l | c | k=>k_is);(case b=>intro _ _ _ _ _ _ us hl;obtain⟨_,rfl⟩:=Pv.len1 hl;rfl))
  obtain⟨CW,cW,nLW,dWI,dWR,dWL,dWT⟩:∃C,L2.Cls (L2.KOf KX) C/\L2.zE (L2.KOf KX) C "laid" /\L2.Mkd (L2.KOf KX) mg "Witness" C "Witness.__init__" Pv.zaK ["self","paper"]/\L2.Mdf (L2.KOf KX) C "refuse_clash" "Vault.refuse_clash" Pv.zQ ["self","number","thing"]/\L2.Mdf (L2.KOf KX) C "lay" "Vault.lay" Pv.zbE ["self","thing"]/\L2.Mdf (L2.KOf KX) C "thing" "Vault.thing" Pv.zaE ["self","number"]:=by
   dsimp only[L2.KOf];refine' L2.zcw KX (x:= "Witness") ?n ⟨?c0,?c1,?c2,?c3,?c4,?c5⟩
   (case n=>k_is)
   (case c0=>refine' L2.zic ?a ?b ?c ?d;(case a | b | c | d=>k_is))
   (case c1=>unfold L2.zE;k_is)
   (case c2=>refine' L2.zif (qual:= "Witness.__init__") (st:=Pv.zaK) (ps:=["self","paper"]) KX G ?n ?mk ?a ?fn ?l ?c ?k ?kc ?b;(case n | mk | a | fn | l | c | k | kc=>k_is);(case b=>intro _ _ _ _ _ _ us hl;obtain⟨_,_,rfl⟩:=Pv.len2 hl;rfl))
   (case c3=>refine' L2.zbY (m:= "refuse_clash") (qual:= "Vault.refuse_clash") (st:=Pv.zQ) (ps:=["self","number","thing"]) ?a ?fn ?l ?c ?k ?b;(case a | fn | l | c | k=>k_is);(case b=>intro _ _ _ _ _ _ us hl;obtain⟨_,_,_,rfl⟩:=Pv.len3 hl;rfl))
   (case c4=>refine' L2.zbY (m:= "lay") (qual:= "Vault.lay") (st:=Pv.zbE) (ps:=["self","thing"]) ?a ?fn ?l ?c ?k ?b;(case a | fn | l | c | k=>k_is);(case b=>intro _ _ _ _ _ _ us hl;obtain⟨_,_,rfl⟩:=Pv.len2 hl;rfl))
   (case c5=>refine' L2.zbY (m:= "thing") (qual:= "Vault.thing") (st:=Pv.zaE) (ps:=["self","number"]) ?a ?fn ?l ?c ?k ?b;(case a | fn | l | c | k=>k_is);(case b=>intro _ _ _ _ _ _ us hl;obtain⟨_,_,rfl⟩:=Pv.len2 hl;rfl))
  obtain⟨CR,cR,nLR,nKR,nNR,dRI,dRR,dRL,dRT,dRP⟩:∃C,L2.Cls (L2.KOf KX) C/\L2.zE (L2.KOf KX) C "laid" /\L2.zE (L2.KOf KX) C "keeper" /\L2.zE (L2.KOf KX) C "noted" /\L2.Mkd (L2.KOf KX) mg "Reader" C "Reader.__init__" Pv.zaW ["self","keeper"]/\L2.Mdf (L2.KOf KX) C "refuse_clash" "Vault.refuse_clash" Pv.zQ ["self","number","thing"]/\L2.Mdf (L2.KOf KX) C "lay" "Reader.lay" Pv.zco ["self","thing"]/\L2.Mdf (L2.KOf KX) C "thing" "Reader.thing" Pv.zbJ ["self","number"]/\L2.Mdf (L2.KOf KX) C "paper" "Reader.paper" Pv.zbK ["self"]:=by
   dsimp only[L2.KOf];refine' L2.zcw KX (x:= "Reader") ?n ⟨?c0,?c1,?c2,?c3,?c4,?c5,?c6,?c7,?c8⟩
   (case n=>k_is)
   (case c0=>refine' L2.zic ?a ?b ?c ?d;(case a | b | c | d=>k_is))
   (case c1=>unfold L2.zE;k_is)
   (case c2=>unfold L2.zE;k_is)
   (case c3=>unfold L2.zE;k_is)
   (case c4=>refine' L2.zif (qual:= "Reader.__init__") (st:=Pv.zaW) (ps:=["self","keeper"]) KX G ?n ?mk ?a ?fn ?l ?c ?k ?kc ?b;(case n | mk | a | fn | l | c | k | kc=>k_is);(case b=>intro _ _ _ _ _ _ us hl;obtain⟨_,_,rfl⟩:=Pv.len2 hl;rfl))
   (case c5=>refine' L2.zbY (m:= "refuse_clash") (qual:= "Vault.refuse_clash") (st:=Pv.zQ) (ps:=["self","number","thing"]) ?a ?fn ?l ?c ?k ?b;(case a | fn | l | c | k=>k_is);(case b=>intro _ _ _ _ _ _ us hl;obtain⟨_,_,_,rfl⟩:=Pv.len3 hl;rfl))
   (case c6=>refine' L2.zbY (m:= "lay") (qual:= "Reader.lay") (st:=Pv.zco) (ps:=["self","thing"]) ?a ?fn ?l ?c ?k ?b;(case a | fn | l | c | k=>k_is);(case b=>intro _ _ _ _ _ _ us hl;obtain⟨_,_,rfl⟩:=Pv.len2 hl;rfl))
   (case c7=>refine' L2.zbY (m:= "thing") (qual:= "Reader.thing") (st:=Pv.zbJ) (ps:=["self","number"]) ?a ?fn ?l ?c ?k ?b;(case a | fn | l | c | k=>k_is);(case b=>intro _ _ _ _ _ _ us hl;obtain⟨_,_,rfl⟩:=Pv.len2 hl;rfl))
   (case c8=>refine' L2.zbY (m:= "paper") (qual:= "Reader.paper") (st:=Pv.zbK) (ps:=["self"]) ?a ?fn ?l ?c ?k ?b;(case a | fn | l | c | k=>k_is);(case b=>intro _ _ _ _ _ _ us hl;obtain⟨_,rfl⟩:=Pv.len1 hl;rfl))
  have gI:L2.Kdf (L2.KOf KX) mg "Vault" "__init__" "Vault.__init__" Pv.zaf ["self"]:=by
   dsimp only[L2.KOf];refine' L2.zqT (mc:=.type "type") (qual:= "Vault.__init__") (st:=Pv.zaf) (ps:=["self"]) KX G ?n ?g ?rd ?fc ?l ?c ?k ?b
   (case n | g | rd | fc | l | c | k=>k_is)
   (case b=>intro _ _ _ _ _ _ us hl;obtain⟨_,rfl⟩:=Pv.len1 hl;rfl)
  obtain⟨CPut,cPut,nPut0,nPut1,dPutI,dPutA⟩:∃C,L2.Cls (L2.KOf KX) C/\L2.zE (L2.KOf KX) C "key" /\L2.zE (L2.KOf KX) C "worth" /\L2.Mkd (L2.KOf KX) mg "Put" C "Put.__init__" Pv.zbM ["self","key","worth"]/\L2.Mdf (L2.KOf KX) C "answer" "Put.answer" Pv.zcq ["self","vault","root"]:=by
   dsimp only[L2.KOf];refine' L2.zcw KX (x:= "Put") ?n ⟨?c0,?c1,?c2,?c3,?c4⟩
   (case n=>k_is)
   (case c0=>refine' L2.zic ?a ?b ?c ?d;(case a | b | c | d=>k_is))
   (case c1=>unfold L2.zE;k_is)
   (case c2=>unfold L2.zE;k_is)
   (case c3=>refine' L2.zif (qual:= "Put.__init__") (st:=Pv.zbM) (ps:=["self","key","worth"]) KX G ?n ?mk ?a ?fn ?l ?c ?k ?kc ?b;(case n | mk | a | fn | l | c | k | kc=>k_is);(case b=>intro _ _ _ _ _ _ us hl;obtain⟨_,_,_,rfl⟩:=Pv.len3 hl;rfl))
   (case c4=>refine' L2.zbY (m:= "answer") (qual:= "Put.answer") (st:=Pv.zcq) (ps:=["self","vault","root"]) ?a ?fn ?l ?c ?k ?b;(case a | fn | l | c | k=>k_is);(case b=>intro _ _ _ _ _ _ us hl;obtain⟨_,_,_,rfl⟩:=Pv.len3 hl;rfl))
  obtain⟨CVaultError,CBadThing,CNoPaper,CClash,zb9,zq8,zfe,zdM,e1,e2,e3,e4,e5,e6,e7,xB,xN,xC,n1,n2⟩:∃CVaultError CBadThing CNoPaper CClash,mg "VaultError" =some (.ref CVaultError)/\mg "BadThing" =some (.ref CBadThing)/\mg "NoPaper" =some (.ref CNoPaper)/\mg "Clash" =some (.ref CClash)/\PySem.W.exmOne (L2.KOf KX) (.ref CNoPaper) (.ref CVaultError)=some true/\PySem.W.exmOne (L2.KOf KX) (.ref CBadThing) (.ref CVaultError)=some true/\PySem.W.exmOne (L2.KOf KX) (.ref CClash) (.ref CVaultError)=some true/\PySem.W.exmOne (L2.KOf KX) (.ref CNoPaper) (.ref CClash)=some false/\PySem.W.exmOne (L2.KOf KX) (.ref CBadThing) (.ref CClash)=some false/\PySem.W.exmOne (L2.KOf KX) (.ref CClash) (.ref CClash)=some true/\PySem.W.exmOne (L2.KOf KX) (.ref CNoPaper) (.ref CNoPaper)=some true/\L2.XP (L2.KOf KX) mg "BadThing" CBadThing/\L2.XP (L2.KOf KX) mg "NoPaper" CNoPaper/\L2.XId (L2.KOf KX) mg "Clash" CClash "Clash.__init__" Pv.za9 ["self","one","other"]/\L2.zE (L2.KOf KX) CClash "one" /\L2.zE (L2.KOf KX) CClash "other" :=by
   dsimp only[L2.KOf];refine' L2.zcw KX (x:= "VaultError") ?n0 (L2.zcw KX (x:= "BadThing") ?n1 (L2.zcw KX (x:= "NoPaper") ?n2 (L2.zcw KX (x:= "Clash") ?n3 (⟨?c0,?c1,?c2,?c3,?c4,?c5,?c6,?c7,?c8,?c9,?c10,?c11,?c12,?c13,?c14,?c15⟩))))
   (case n0=>k_is)
   (case n1=>k_is)
   (case n2=>k_is)
   (case n3=>k_is)
   (case c0=>refine' PySem.W.mg_of KX G ?z;(case z=>k_is))
   (case c1=>refine' PySem.W.mg_of KX G ?z;(case z=>k_is))
   (case c2=>refine' PySem.W.mg_of KX G ?z;(case z=>k_is))
   (case c3=>refine' PySem.W.mg_of KX G ?z;(case z=>k_is))
   (case c4=>kernel_rfl)
   (case c5=>kernel_rfl)
   (case c6=>kernel_rfl)
   (case c7=>kernel_rfl)
   (case c8=>kernel_rfl)
   (case c9=>kernel_rfl)
   (case c10=>kernel_rfl)
   (case c11=>refine'⟨?cl,?ei,?m⟩;(case cl=>refine' L2.zhJ ?xq ?xo ?xs ?xg ?xh ?xk;(case xq=>kernel_rfl);(case xo=>kernel_rfl);(case xs | xg | xh | xk=>k_is));(case ei=>kernel_rfl);(case m=>refine' PySem.W.mg_of KX G ?z;(case z=>k_is)))
   (case c12=>refine'⟨?cl,?ei,?m⟩;(case cl=>refine' L2.zhJ ?xq ?xo ?xs ?xg ?xh ?xk;(case xq=>kernel_rfl);(case xo=>kernel_rfl);(case xs | xg | xh | xk=>k_is));(case ei=>kernel_rfl);(case m=>refine' PySem.W.mg_of KX G ?z;(case z=>k_is)))
   (case c13=>refine' L2.zqb (qual:= "Clash.__init__") (st:=Pv.za9) (ps:=["self","one","other"]) KX G ?n ?cl ?a ?fn ?l ?c ?k ?b;(case n=>k_is);(case cl=>refine' L2.zhJ ?xq ?xo ?xs ?xg ?xh ?xk;(case xq=>kernel_rfl);(case xo=>kernel_rfl);(case xs | xg | xh | xk=>k_is));(case a | fn | l | c | k=>k_is);(case b=>intro _ _ _ _ _ _ us hl;obtain⟨_,_,_,rfl⟩:=Pv.len3 hl;rfl))
   (case c14=>unfold L2.zE;k_is)
   (case c15=>unfold L2.zE;k_is)
  refine' Pv.zqS KX G hmg ?a ?l ?c ?k ?ok
  (case a | l | c | k=>k_is)
  case ok=>
   intro base fd F;have zq9:=Pv.zjT (P:=PQ) (w:=w) (base:=base) zg1 zR;have zow:=Pv.zmb (P:=PQ) (w:=w) (base:=base) zg7 zbO;have zox:=Pv.zo5 (P:=PQ) (w:=w) (base:=base) zkd;have zoy:=Pv.zlH (P:=PQ) (w:=w) (base:=base) zin;have zrS:=Pv.zhT (P:=PQ) (w:=w) (base:=base) zja m_ord;have zpG:=Pv.ziw zpz zrS zt zbr zdv zbO zR 10;have zfi:=Pv.zpw zq5 zpG;have zra:=Pv.zoU (P:=PQ) (w:=w) (base:=base) zmk zt zbr zdv;have zlm:=Pv.zi0 zpA zfh zra zhB zR zt zay 9;have zir:=Pv.zmS (P:=PQ) (w:=w) (base:=base) xC n1 n2;have zkf:=Pv.zm2 (P:=PQ) (w:=w) (base:=base) dI cK nL;have zjd:=Pv.ze2 dR zir cK nL;have zrb:=Pv.ze2 dWR zir cW nLW;have zrc:=Pv.ze2 dRR zir cR nLR;have zp5:=Pv.zmA dL zjd zfi cK nL;have zoz:=Pv.zmA dWL zrb zfi cW nLW;have zoA:=Pv.zkQ zp5;have zg3:=Pv.zhp (P:=PQ) (w:=w) (base:=base) dT xN cK nL;have zoB:=Pv.zhp (P:=PQ) (w:=w) (base:=base) dWT xN cW nLW;have zoC:=Pv.zlp (mg:=mg) (P:=PQ) (w:=w) (base:=base) dT cK nL;have zje:=Pv.zlF (P:=PQ) (w:=w) (base:=base) zor zgU;have zjf:=Pv.zl1 dTs zje cK nL;have zrd:=Pv.ziK (P:=PQ) (w:=w) (base:=base) gI cR nLR;have zpH:=Pv.ziK (P:=PQ) (w:=w) (base:=base) gI cW nLW;have zoD:=Pv.znY dRI zrd cR nKR nNR;have zre:=Pv.zoQ dRL zrc zjd zfi cR cK nLR nKR;have zoE:=Pv.zlS dRT zg3 cR cK nLR nKR nNR;have zpI:=Pv.zoi dRP zje cR nNR;have zoF:=Pv.zmG (P:=PQ) (w:=w) (base:=base) zgY zt zbr zfb;have zpJ:=Pv.zm9 (P:=PQ) (w:=w) (base:=base) zc8 m_ord zcS;have zoG:=Pv.zgR zeJ zeK zoF zpJ zt zay zdv zbr zR zll zaZ zas 6;have zp6:=Pv.zp9 zka zoG zbX;have zrT:=Pv.zrL dWI zpH zp6 (Pv.zkQ zoz) xB cW;have zln:=Pv.zlE (P:=PQ) (w:=w) (base:=base) zgY zt zbr zfb;have zrf:=Pv.znq zmn zln;have zoH:=Pv.zlJ zmm zrf zln zt zay zR zaM zb8 zao zaa zU zbs;have zrg:=Pv.zo7 zq6 zfi;have zlo:=Pv.zns zpC zrg zlm;have zrh:=Pv.zn1 zmo zlm zaM zao zaa;have zri:=Pv.zmI (P:=PQ) (w:=w) (base:=base) zjb zaM zb8 zao zaa;have zrj:=Pv.zm3 (P:=PQ) (w:=w) (base:=base) zmp zaM zR;have zpK:=Pv.zlV zkc zlo zaM zdw zR;have tr:= @Pv.zqm _ _ _ _ _ CClash CNoPaper _ _ _ _ _ _ zg0 zoH xB zos zrh zrj zq7 zot zri zpK zrQ zou zrR zlo zaM zao zaa zU zaT zR zbf;have trK:=tr (Pv.vi_K CK) (Pv.zkt zg3) (Pv.zpV zp5) cK;have trW:=tr (Pv.vi_K CW) (Pv.zkt zoB) (Pv.zpV zoz) cW;have trR:=λ(kp dk:Addr)=>tr (Pv.vi_R CR CK kp dk) (Pv.zpq zoE) (Pv.zry zre) cR;have zrU:=Pv.zo9 (P:=PQ) (w:=w) (base:=base) dPutI cPut nPut0 nPut1;have a_K:=Pv.zhS dPutA trK.1 cPut nPut0 nPut1;have a_W:=Pv.zhS dPutA trW.1 cPut nPut0 nPut1;have zp7:=Pv.zqP zdN zoD zpI cR (λkp dk=>Pv.zhS dPutA (trR kp dk).1 cPut nPut0 nPut1) cPut;have zp8:=Pv.zqj zml zrT a_W cPut;have zr3:=Pv.zgL zgZ zg3 cK zfe e7;have zr4:=Pv.zjY zkb zr3 zp6 zfi zoC cK zR zoo;have zpL:=Pv.znD zpB zp8 zp7 zr4 zb9 zdM e1 e2 e3 e4 e5 e6;have zpM:=Pv.zmC zio zox zoy trK.1 trK.2 zR zbO;have zrk:=Pv.zkX (P:=PQ) (w:=w) (base:=base) zg2 zt zay 7;have zrl:=Pv.zpg zjc zkf zjf zoA cK;have zrV:=Pv.zqR zke zox zrU zp7 zp8 zpL zrl zrk a_K zjf zoA zkf cK cPut zj7 zR zbr;have zpN:=Pv.zmW ziq zq9 zkf zpM zow zrV;exact Pv.zqy F zpN zfi zdM xC.cl n1 n2 e6
#print axioms PySem.Challenge.cw_papervault_k50_shown_where_the_keeper_fa_holds
