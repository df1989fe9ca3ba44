import PyProof.Rows.All
import Wide.All
import OpenK.AllK
import Wide.FinOn
import Lean
import PyProof.EqAt
import PyProof.EqKinds
import PyProof.TupleCall
import PyProof.NeKinds
import PyProof.FactsAll.list
import PyProof.ListMulRoad
import PyProof.FactsAll.tuple
import PyProof.Rows.TupAdd
import PyProof.StationsW
import PyProof.RulesAs
import OpenK.KOwn
import OpenK.KMake
import PyProof.ExcClass3
import PyProof.ExcInit
import PyProof.InstStoreFacts
import PyProof.ExcAttrAll.ValueError
import PyProof.NsDelKeeps
import KE.KTryMore
import KE.KDictSum
import PyProof.Rows.SortWalk
import PyProof.StrOps2
import PyProof.WalkInts
import KE.KIsAll
import OpenK.KCls
import PyProof.DictWalks
import KE.KRevIter
import PyProof.ListNew
import PyProof.EnumMake
import PyProof.EnumFor
import PyProof.Rows.SortRuns
import PyProof.SeqI3
import KE.KEqDict
import PyProof.InstEq
import PyProof.ListRange
import PyProof.TupleOfStr
import PyProof.FactsAll.NoneType_1
import PyProof.DictRoadsH
import PySem.Challenge.RW_papervault_k36_what_is_read
set_option compiler.extract_closed false
set_option genSizeOf false
local macro_rules | `(tactic| omega) => `(tactic| first | assumption | decide | lia)
set_option Elab.async false
set_option linter.all false
set_option maxRecDepth 100000
set_option maxHeartbeats 4000000
namespace L2
open PySem
noncomputable def inClass (s:Stmt)(j:Nat):Stmt:=match s with
 | .ClassDef _ _ _ body _ _ _ _ _ _ _=>body.getD j (.Pass ⟨0,0,0,0⟩)
 | _=>.Pass ⟨0,0,0,0⟩
noncomputable def zS (s:Stmt):Arguments:=match s with
 | .FunctionDef _ a _ _ _ _ _ _ _ _=>a
 | _=>{posonlyargs:=[],args:=[],vararg:=none,kwonlyargs:=[],kw_defaults:=[],kwarg:=none,defaults:=[]}
noncomputable def zM (s:Stmt):List Stmt:=match s with
 | .FunctionDef _ _ b _ _ _ _ _ _ _=>b
 | _=>[]
noncomputable def zh (s:Stmt):Scope:=match s with
 | .FunctionDef _ _ _ _ _ _ sc _ _ _=>sc
 | _=>{kind:=.function,names:=[],isGenerator:=false,isCoroutine:=false}
end L2
namespace Pv
open PySem
noncomputable def top (i:Nat):Stmt:=PySem.Challenge.pw_papervault_k36_what_is_read.main.body.getD i (.Pass ⟨0,0,0,0⟩)
end Pv
namespace Pv
open PySem PySem.W
noncomputable abbrev dE (P:Params)(x:Str)(t:Nat)(v:Value):DictEntry:=DictEntry.mk (PyData.keyHash P x) (.str x t) v
noncomputable abbrev cO (n:Str)(a:Nat)(q:Str)(b c:Nat)(l x y z w:Int)(r:Addr)(g:Bool)(r2:Addr)(e1 e2 e3 e4:Value)(t m:Int)(d:Nat):Obj:=.mk (.type "code") none (.fields #[.str n a,.str q b,.str "/claim/cut.py" c,.int l 0,.int x 0,.int y 0,.int z 0,.int w 0,.ref r,.bool g,.int 181 0,.ref r2,e1,e2,e3,e4,.int t 0,.int m 0,.str "/claim/cut.py" d]) #[]
abbrev _root_.QM:=Option Addr
noncomputable abbrev fO (c:Value)(n q:Str)(st:Stmt)(g:Addr)(cl:List (Str ×Addr))(df kd doc md:Value)(an:QM)(cd ct:Value)(bl:Addr):Obj:=.mk c none (.func (.mk n q (L2.zS st) (.stmts (L2.zM st)) (L2.zh st) g cl df kd doc md an cd ct bl)) #[]
noncomputable abbrev f0 (n q:Str)(st:Stmt):Obj:=fO .none n q st 0 [] .none .none .none .none none .none .none 0
noncomputable abbrev f1 (n q:Str)(st:Stmt)(m:Str)(k:Nat)(r:Addr):Obj:=fO (.type "function") n q st 3 [] .none .none .none (.str m k) none (.ref r) .none 0
noncomputable abbrev tO (a:Array Value):Obj:=.mk (.type "tuple") none (.seq a) #[]
noncomputable abbrev dO (a:Array DictEntry)(n:Nat):Obj:=.mk (.type "dict") none (.dict a n) #[]
noncomputable def sp:List Obj->List Obj ×List Obj
 | []=>([],[])
 | x::r=>(x::(sp r).2,(sp r).1)
noncomputable def bt:Nat->List Obj->BT
 | 0,_=>.nil
 | _+1,[]=>.nil
 | n+1,x::r=>.node x (bt n (sp r).1) (bt n (sp r).2)
noncomputable def wv:List Nat->List Obj->List Obj->List Obj
 | [],_,_=>[]
 | n::r,a,b=>a.take n++wv r b (a.drop n)
noncomputable def rgs:List (Nat ×Nat)->List Nat
 | []=>[]
 | (a,n)::r=>List.range' a n++rgs r
noncomputable section
noncomputable abbrev oo0 (P:Params):Obj:=dO #[dE P "__name__" 165 (.str "__main__" 164),dE P "__doc__" 166 .none,dE P "__package__" 167 .none,dE P "__loader__" 168 (.builtin "__main__.__loader__#opaque"),dE P "__spec__" 169 .none,dE P "__annotations__" 170 (.ref 6),dE P "__builtins__" 171 (.ref 4),dE P "__file__" 173 (.str "/claim/cut.py" 172),dE P "__cached__" 174 .none] 9
noncomputable abbrev oo1 (P:Params):Obj:=dO #[dE P "__name__" 165 (.str "papervault.trees" 401),dE P "__doc__" 166 .none,dE P "__package__" 167 .none,dE P "__loader__" 168 (.builtin "__main__.__loader__#opaque"),dE P "__spec__" 169 .none,dE P "__annotations__" 170 (.ref 6),dE P "__builtins__" 171 (.ref 4),dE P "__file__" 173 (.str "/claim/cut.py" 172),dE P "__cached__" 174 .none,dE P "VaultError" 206 (.ref 24),dE P "NoPaper" 222 (.ref 37),dE P "BadThing" 238 (.ref 49),dE P "Clash" 265 (.ref 68),dE P "seal" 276 (.ref 77),dE P "codes" 282 (.ref 82),dE P "number_of" 291 (.ref 89),dE P "is_whole" 300 (.ref 96),dE P "kind_of" 307 (.ref 103),dE P "ahead" 316 (.ref 110),dE P "is_tuple_ahead" 326 (.ref 117),dE P "KEY" 330 (.int 0 329),dE P "WORTH" 332 (.int 1 331),dE P "LEFT" 334 (.int 2 333),dE P "RIGHT" 336 (.int 3 335),dE P "COUNT" 338 (.int 4 337),dE P "MOST_NODES" 340 (.int 300 339),dE P "BENEATH_NONE" 342 (.int 301 341),dE P "node_beneath" 352 (.ref 124),dE P "is_node" 359 (.ref 131),dE P "is_root" 366 (.ref 138),dE P "size" 374 (.ref 145),dE P "size_beneath" 383 (.ref 152),dE P "rank" 390 (.ref 159),dE P "above" 400 (.ref 166),dE P "side_of" 410 (.ref 173),dE P "way_to" 422 (.ref 180),dE P "ends_at" 430 (.ref 187),dE P "found" 440 (.ref 194),dE P "is_empty" 448 (.ref 201),dE P "goes_left" 456 (.ref 208),dE P "goes_right" 464 (.ref 215),dE P "refuse_sum" 474 (.ref 222),dE P "stretch" 488 (.ref 229),dE P "count_ahead" 499 (.ref 236),dE P "counted" 510 (.ref 243),dE P "nth" 522 (.ref 250)] 46
noncomputable abbrev oo2 (P:Params):Obj:=.mk .none none (.fields #[.int 2 0,.int 0 0,.ref 20,.int 4 0,.int 0 0,.ref 33,.int 6 0,.int 0 0,.ref 45,.int 8 0,.int 0 0,.ref 57,.int 14 0,.int 0 0,.ref 76,.int 19 0,.int 0 0,.ref 81,.int 32 0,.int 0 0,.ref 88,.int 38 0,.int 0 0,.ref 95,.int 40 0,.int 0 0,.ref 102,.int 48 0,.int 0 0,.ref 109,.int 57 0,.int 0 0,.ref 116,.int 70 0,.int 0 0,.ref 123,.int 75 0,.int 0 0,.ref 130,.int 83 0,.int 0 0,.ref 137,.int 85 0,.int 0 0,.ref 144,.int 87 0,.int 0 0,.ref 151,.int 91 0,.int 0 0,.ref 158,.int 93 0,.int 0 0,.ref 165,.int 100 0,.int 0 0,.ref 172,.int 102 0,.int 0 0,.ref 179,.int 113 0,.int 0 0,.ref 186,.int 115 0,.int 0 0,.ref 193,.int 118 0,.int 0 0,.ref 200,.int 120 0,.int 0 0,.ref 207,.int 122 0,.int 0 0,.ref 214,.int 124 0,.int 0 0,.ref 221,.int 129 0,.int 0 0,.ref 228,.int 150 0,.int 0 0,.ref 235,.int 159 0,.int 0 0,.ref 242,.int 166 0,.int 0 0,.ref 249]) #[]
noncomputable abbrev oo3 (P:Params):Obj:=dO #[dE P "__name__" 165 (.str "law_papervault_k36_what_is_read" 752),dE P "__doc__" 166 .none,dE P "__package__" 167 .none,dE P "__loader__" 168 (.builtin "__main__.__loader__#opaque"),dE P "__spec__" 169 .none,dE P "__annotations__" 170 (.ref 6),dE P "__builtins__" 171 (.ref 4),dE P "__file__" 173 (.str "/claim/cut.py" 172),dE P "__cached__" 174 .none,dE P "VaultError" 206 (.ref 24),dE P "NoPaper" 222 (.ref 37),dE P "BadThing" 238 (.ref 49),dE P "Clash" 265 (.ref 68),dE P "seal" 276 (.ref 77),dE P "codes" 282 (.ref 82),dE P "number_of" 291 (.ref 89),dE P "is_whole" 300 (.ref 96),dE P "kind_of" 307 (.ref 103),dE P "ahead" 316 (.ref 110),dE P "is_tuple_ahead" 326 (.ref 117),dE P "KEY" 330 (.int 0 329),dE P "WORTH" 332 (.int 1 331),dE P "LEFT" 334 (.int 2 333),dE P "RIGHT" 336 (.int 3 335),dE P "COUNT" 338 (.int 4 337),dE P "MOST_NODES" 340 (.int 300 339),dE P "BENEATH_NONE" 342 (.int 301 341),dE P "node_beneath" 352 (.ref 124),dE P "is_node" 359 (.ref 131),dE P "is_root" 366 (.ref 138),dE P "size" 374 (.ref 145),dE P "size_beneath" 383 (.ref 152),dE P "rank" 390 (.ref 159),dE P "above" 400 (.ref 166),dE P "side_of" 410 (.ref 173),dE P "way_to" 422 (.ref 180),dE P "ends_at" 430 (.ref 187),dE P "found" 440 (.ref 194),dE P "is_empty" 448 (.ref 201),dE P "goes_left" 456 (.ref 208),dE P "goes_right" 464 (.ref 215),dE P "refuse_sum" 474 (.ref 222),dE P "stretch" 488 (.ref 229),dE P "count_ahead" 499 (.ref 236),dE P "counted" 510 (.ref 243),dE P "nth" 522 (.ref 250),dE P "with_tree" 532 (.ref 257),dE P "hung" 544 (.ref 264),dE P "parted" 560 (.ref 271),dE P "place_in" 570 (.ref 278),dE P "put" 586 (.ref 285),dE P "cut" 597 (.ref 292),dE P "joined" 615 (.ref 299),dE P "rising" 623 (.ref 304),dE P "Vault" 677 (.ref 342),dE P "Keeper" 700 (.ref 363),dE P "Reader" 751 (.ref 403),dE P "_law_cell_at" 761 (.ref 412),dE P "_law_mix" 770 (.ref 419),dE P "_law_parts" 782 (.ref 426),dE P "_law_text" 793 (.ref 433),dE P "_law_key" 803 (.ref 440),dE P "_law_worth" 812 (.ref 447),dE P "_law_sort" 819 (.ref 454),dE P "_law_ahead" 828 (.ref 461),dE P "_law_put_in" 838 (.ref 468),dE P "_law_way" 849 (.ref 475),dE P "_law_edge" 860 (.ref 482),dE P "_law_long_way" 870 (.ref 489),dE P "_law_kids" 881 (.ref 496),dE P "_law_asked" 893 (.ref 503),dE P "_law_let" 906 (.ref 510),dE P "_law_paper_right" 912 (.ref 515),dE P "_law_right" 931 (.ref 522),dE P "_law_walked" 945 (.ref 529)] 75
noncomputable abbrev oo4 (P:Params):Obj:=.mk .none none (.fields #[.int 2 0,.int 0 0,.ref 20,.int 4 0,.int 0 0,.ref 33,.int 6 0,.int 0 0,.ref 45,.int 8 0,.int 0 0,.ref 57,.int 14 0,.int 0 0,.ref 76,.int 19 0,.int 0 0,.ref 81,.int 32 0,.int 0 0,.ref 88,.int 38 0,.int 0 0,.ref 95,.int 40 0,.int 0 0,.ref 102,.int 48 0,.int 0 0,.ref 109,.int 57 0,.int 0 0,.ref 116,.int 70 0,.int 0 0,.ref 123,.int 75 0,.int 0 0,.ref 130,.int 83 0,.int 0 0,.ref 137,.int 85 0,.int 0 0,.ref 144,.int 87 0,.int 0 0,.ref 151,.int 91 0,.int 0 0,.ref 158,.int 93 0,.int 0 0,.ref 165,.int 100 0,.int 0 0,.ref 172,.int 102 0,.int 0 0,.ref 179,.int 113 0,.int 0 0,.ref 186,.int 115 0,.int 0 0,.ref 193,.int 118 0,.int 0 0,.ref 200,.int 120 0,.int 0 0,.ref 207,.int 122 0,.int 0 0,.ref 214,.int 124 0,.int 0 0,.ref 221,.int 129 0,.int 0 0,.ref 228,.int 150 0,.int 0 0,.ref 235,.int 159 0,.int 0 0,.ref 242,.int 166 0,.int 0 0,.ref 249,.int 184 0,.int 0 0,.ref 256,.int 188 0,.int 0 0,.ref 263,.int 192 0,.int 0 0,.ref 270,.int 205 0,.int 0 0,.ref 277,.int 210 0,.int 0 0,.ref 284,.int 221 0,.int 0 0,.ref 291,.int 227 0,.int 0 0,.ref 298,.int 248 0,.int 0 0,.ref 303,.int 250 0,.int 0 0,.ref 310,.int 269 0,.int 0 0,.ref 352,.int 273 0,.int 0 0,.ref 371,.int 297 0,.int 0 0,.ref 411,.int 301 0,.int 0 0,.ref 418,.int 305 0,.int 0 0,.ref 425,.int 315 0,.int 0 0,.ref 432,.int 323 0,.int 0 0,.ref 439,.int 328 0,.int 0 0,.ref 446,.int 331 0,.int 0 0,.ref 453,.int 339 0,.int 0 0,.ref 460,.int 352 0,.int 0 0,.ref 467,.int 359 0,.int 0 0,.ref 474,.int 368 0,.int 0 0,.ref 481,.int 375 0,.int 0 0,.ref 488,.int 380 0,.int 0 0,.ref 495,.int 387 0,.int 0 0,.ref 502,.int 397 0,.int 0 0,.ref 509,.int 407 0,.int 0 0,.ref 514,.int 415 0,.int 0 0,.ref 521,.int 435 0,.int 0 0,.ref 528]) #[]
noncomputable def KK:Params->Frag:=λP=>
(nat_lit 2,.mk .none none (.dict #[]) #[])::
(nat_lit 3,dO #[dE P "__name__" 165 (.str "law_papervault_k36_what_is_read" 752),dE P "__doc__" 166 .none,dE P "__package__" 167 .none,dE P "__loader__" 168 (.builtin "__main__.__loader__#opaque"),dE P "__spec__" 169 .none,dE P "__annotations__" 170 (.ref 6),dE P "__builtins__" 171 (.ref 4),dE P "__file__" 173 (.str "/claim/cut.py" 172),dE P "__cached__" 174 .none,dE P "VaultError" 206 (.ref 24),dE P "NoPaper" 222 (.ref 37),dE P "BadThing" 238 (.ref 49),dE P "Clash" 265 (.ref 68),dE P "seal" 276 (.ref 77),dE P "codes" 282 (.ref 82),dE P "number_of" 291 (.ref 89),dE P "is_whole" 300 (.ref 96),dE P "kind_of" 307 (.ref 103),dE P "ahead" 316 (.ref 110),dE P "is_tuple_ahead" 326 (.ref 117),dE P "KEY" 330 (.int 0 329),dE P "WORTH" 332 (.int 1 331),dE P "LEFT" 334 (.int 2 333),dE P "RIGHT" 336 (.int 3 335),dE P "COUNT" 338 (.int 4 337),dE P "MOST_NODES" 340 (.int 300 339),dE P "BENEATH_NONE" 342 (.int 301 341),dE P "node_beneath" 352 (.ref 124),dE P "is_node" 359 (.ref 131),dE P "is_root" 366 (.ref 138),dE P "size" 374 (.ref 145),dE P "size_beneath" 383 (.ref 152),dE P "rank" 390 (.ref 159),dE P "above" 400 (.ref 166),dE P "side_of" 410 (.ref 173),dE P "way_to" 422 (.ref 180),dE P "ends_at" 430 (.ref 187),dE P "found" 440 (.ref 194),dE P "is_empty" 448 (.ref 201),dE P "goes_left" 456 (.ref 208),dE P "goes_right" 464 (.ref 215),dE P "refuse_sum" 474 (.ref 222),dE P "stretch" 488 (.ref 229),dE P "count_ahead" 499 (.ref 236),dE P "counted" 510 (.ref 243),dE P "nth" 522 (.ref 250),dE P "with_tree" 532 (.ref 257),dE P "hung" 544 (.ref 264),dE P "parted" 560 (.ref 271),dE P "place_in" 570 (.ref 278),dE P "put" 586 (.ref 285),dE P "cut" 597 (.ref 292),dE P "joined" 615 (.ref 299),dE P "rising" 623 (.ref 304),dE P "Vault" 677 (.ref 342),dE P "Keeper" 700 (.ref 363),dE P "Reader" 751 (.ref 403),dE P "_law_cell_at" 761 (.ref 412),dE P "_law_mix" 770 (.ref 419),dE P "_law_parts" 782 (.ref 426),dE P "_law_text" 793 (.ref 433),dE P "_law_key" 803 (.ref 440),dE P "_law_worth" 812 (.ref 447),dE P "_law_sort" 819 (.ref 454),dE P "_law_ahead" 828 (.ref 461),dE P "_law_put_in" 838 (.ref 468),dE P "_law_way" 849 (.ref 475),dE P "_law_edge" 860 (.ref 482),dE P "_law_long_way" 870 (.ref 489),dE P "_law_kids" 881 (.ref 496),dE P "_law_asked" 893 (.ref 503),dE P "_law_let" 906 (.ref 510),dE P "_law_paper_right" 912 (.ref 515),dE P "_law_right" 931 (.ref 522),dE P "_law_walked" 945 (.ref 529),dE P "law" 955 (.ref 536)] 76)::
(nat_lit 15,tO #[.type "ValueError"])::
(nat_lit 22,tO #[])::
(nat_lit 23,dO #[dE P "__module__" 196 (.str "papervault.errors" 187),dE P "__firstlineno__" 200 (.int 2 199),dE P "__static_attributes__" 201 (.ref 22),dE P "__weakref__" 203 (.ref 25),dE P "__doc__" 204 .none] 3)::
(nat_lit 24,.mk (.type "type") none (.cls (ClassData.mk "VaultError" [.type "ValueError"] [.ref 24,.type "ValueError",.type "Exception",.type "BaseException",.type "object"] 23 "VaultError" true [] [.ref 37,.ref 49,.ref 68] false none false)) #[some (.ref 15),none,some (.str "VaultError" 189),some (.str "VaultError" 197),some (.builtin "ValueError.__new__"),some (.bool true)])::
(nat_lit 25,.mk (.type "getset_descriptor") none (.fields #[.str "__weakref__" 202,.ref 24,.builtin "ExceptionGroup.__weakref__",.none]) #[])::
(nat_lit 28,tO #[.ref 24])::
(nat_lit 35,tO #[])::
(nat_lit 36,dO #[dE P "__module__" 214 (.str "papervault.errors" 187),dE P "__firstlineno__" 218 (.int 4 217),dE P "__static_attributes__" 219 (.ref 35),dE P "__doc__" 220 .none] 2)::
(nat_lit 37,.mk (.type "type") none (.cls (ClassData.mk "NoPaper" [.ref 24] [.ref 37,.ref 24,.type "ValueError",.type "Exception",.type "BaseException",.type "object"] 36 "NoPaper" true [] [] false none false)) #[some (.ref 28),none,some (.str "NoPaper" 207),some (.str "NoPaper" 215),some (.builtin "ValueError.__new__"),some (.bool true)])::
(nat_lit 40,tO #[.ref 24])::
(nat_lit 47,tO #[])::
(nat_lit 48,dO #[dE P "__module__" 230 (.str "papervault.errors" 187),dE P "__firstlineno__" 234 (.int 6 233),dE P "__static_attributes__" 235 (.ref 47),dE P "__doc__" 236 .none] 2)::
(nat_lit 49,.mk (.type "type") none (.cls (ClassData.mk "BadThing" [.ref 24] [.ref 49,.ref 24,.type "ValueError",.type "Exception",.type "BaseException",.type "object"] 48 "BadThing" true [] [] false none false)) #[some (.ref 40),none,some (.str "BadThing" 223),some (.str "BadThing" 231),some (.builtin "ValueError.__new__"),some (.bool true)])::
(nat_lit 52,tO #[.ref 24])::
(nat_lit 59,tO #[])::
(nat_lit 61,tO #[.str "self" 254,.str "one" 255,.str "other" 256])::
(nat_lit 62,tO #[])::
(nat_lit 64,cO "__init__" 251 "Clash.__init__" 252 253 10 3 0 0 3 59 true 60 .none (.ref 61) (.ref 62) (.ref 63) 257 10 258)::
(nat_lit 65,f1 "__init__" "Clash.__init__" (L2.inClass (Pv.top 4) 0) "papervault.errors" 187 64)::
(nat_lit 66,tO #[.str "one" 260,.str "other" 261])::
(nat_lit 67,dO #[dE P "__module__" 246 (.str "papervault.errors" 187),dE P "__firstlineno__" 250 (.int 8 249),dE P "__init__" 259 (.ref 65),dE P "__static_attributes__" 262 (.ref 66),dE P "__doc__" 263 .none] 2)::
(nat_lit 68,.mk (.type "type") none (.cls (ClassData.mk "Clash" [.ref 24] [.ref 68,.ref 24,.type "ValueError",.type "Exception",.type "BaseException",.type "object"] 67 "Clash" true [] [] false none false)) #[some (.ref 52),none,some (.str "Clash" 239),some (.str "Clash" 247),some (.builtin "ValueError.__new__"),some (.bool true)])::
(nat_lit 71,tO #[])::
(nat_lit 73,tO #[.str "thing" 271,.str "folded" 272,.str "code" 273])::
(nat_lit 74,tO #[])::
(nat_lit 76,cO "seal" 268 "seal" 269 270 14 1 0 0 3 71 true 72 .none (.ref 73) (.ref 74) (.ref 75) 274 14 275)::
(nat_lit 77,f1 "seal" "seal" (Pv.top 6) "papervault.seals" 266 76)::
(nat_lit 78,tO #[])::
(nat_lit 81,cO "codes" 277 "codes" 278 279 19 1 0 0 3 78 true 79 .none .none .none (.ref 80) 280 19 281)::
(nat_lit 82,f1 "codes" "codes" (Pv.top 7) "papervault.seals" 266 81)::
(nat_lit 83,tO #[])::
(nat_lit 85,tO #[.str "signs" 286,.str "number" 287,.str "sign" 288])::
(nat_lit 86,tO #[])::
(nat_lit 88,cO "number_of" 283 "number_of" 284 285 32 1 0 0 3 83 true 84 .none (.ref 85) (.ref 86) (.ref 87) 289 32 290)::
(nat_lit 89,f1 "number_of" "number_of" (Pv.top 8) "papervault.seals" 266 88)::
(nat_lit 90,tO #[])::
(nat_lit 92,tO #[.str "value" 297])::
(nat_lit 93,tO #[])::
(nat_lit 95,cO "is_whole" 294 "is_whole" 295 296 38 1 0 0 3 90 true 91 .none (.ref 92) (.ref 93) (.ref 94) 298 38 299)::
(nat_lit 96,f1 "is_whole" "is_whole" (Pv.top 10) "papervault.things" 292 95)::
(nat_lit 97,tO #[])::
(nat_lit 99,tO #[.str "thing" 304])::
(nat_lit 100,tO #[])::
(nat_lit 102,cO "kind_of" 301 "kind_of" 302 303 40 1 0 0 3 97 true 98 .none (.ref 99) (.ref 100) (.ref 101) 305 40 306)::
(nat_lit 103,f1 "kind_of" "kind_of" (Pv.top 11) "papervault.things" 292 102)::
(nat_lit 104,tO #[])::
(nat_lit 106,tO #[.str "one" 311,.str "other" 312,.str "kind" 313])::
(nat_lit 107,tO #[])::
(nat_lit 109,cO "ahead" 308 "ahead" 309 310 48 2 0 0 3 104 true 105 .none (.ref 106) (.ref 107) (.ref 108) 314 48 315)::
(nat_lit 110,f1 "ahead" "ahead" (Pv.top 12) "papervault.things" 292 109)::
(nat_lit 111,tO #[])::
(nat_lit 113,tO #[.str "one" 320,.str "other" 321,.str "mine" 322,.str "its" 323])::
(nat_lit 114,tO #[])::
(nat_lit 116,cO "is_tuple_ahead" 317 "is_tuple_ahead" 318 319 57 2 0 0 3 111 true 112 .none (.ref 113) (.ref 114) (.ref 115) 324 57 325)::
(nat_lit 117,f1 "is_tuple_ahead" "is_tuple_ahead" (Pv.top 13) "papervault.things" 292 116)::
(nat_lit 118,tO #[])::
(nat_lit 120,tO #[.str "vault" 346,.str "root" 347,.str "count" 348,.str "node" 349])::
(nat_lit 121,tO #[])::
(nat_lit 123,cO "node_beneath" 343 "node_beneath" 344 345 70 3 0 0 3 118 true 119 .none (.ref 120) (.ref 121) (.ref 122) 350 70 351)::
(nat_lit 124,f1 "node_beneath" "node_beneath" (Pv.top 22) "papervault.nodes" 327 123)::
(nat_lit 125,tO #[])::
(nat_lit 127,tO #[.str "thing" 356])::
(nat_lit 128,tO #[])::
(nat_lit 130,cO "is_node" 353 "is_node" 354 355 75 1 0 0 3 125 true 126 .none (.ref 127) (.ref 128) (.ref 129) 357 75 358)::
(nat_lit 131,f1 "is_node" "is_node" (Pv.top 23) "papervault.nodes" 327 130)::
(nat_lit 132,tO #[])::
(nat_lit 134,tO #[.str "thing" 363])::
(nat_lit 135,tO #[])::
(nat_lit 137,cO "is_root" 360 "is_root" 361 362 83 1 0 0 3 132 true 133 .none (.ref 134) (.ref 135) (.ref 136) 364 83 365)::
(nat_lit 138,f1 "is_root" "is_root" (Pv.top 24) "papervault.nodes" 327 137)::
(nat_lit 139,tO #[])::
(nat_lit 141,tO #[.str "vault" 370,.str "root" 371])::
(nat_lit 142,tO #[])::
(nat_lit 144,cO "size" 367 "size" 368 369 85 2 0 0 3 139 true 140 .none (.ref 141) (.ref 142) (.ref 143) 372 85 373)::
(nat_lit 145,f1 "size" "size" (Pv.top 25) "papervault.nodes" 327 144)::
(nat_lit 146,tO #[])::
(nat_lit 148,tO #[.str "vault" 378,.str "root" 379,.str "count" 380])::
(nat_lit 149,tO #[])::
(nat_lit 151,cO "size_beneath" 375 "size_beneath" 376 377 87 3 0 0 3 146 true 147 .none (.ref 148) (.ref 149) (.ref 150) 381 87 382)::
(nat_lit 152,f1 "size_beneath" "size_beneath" (Pv.top 26) "papervault.nodes" 327 151)::
(nat_lit 153,tO #[])::
(nat_lit 155,tO #[.str "key" 387])::
(nat_lit 156,tO #[])::
(nat_lit 158,cO "rank" 384 "rank" 385 386 91 1 0 0 3 153 true 154 .none (.ref 155) (.ref 156) (.ref 157) 388 91 389)::
(nat_lit 159,f1 "rank" "rank" (Pv.top 27) "papervault.nodes" 327 158)::
(nat_lit 160,tO #[])::
(nat_lit 162,tO #[.str "key" 394,.str "other" 395,.str "mine" 396,.str "its" 397])::
(nat_lit 163,tO #[])::
(nat_lit 165,cO "above" 391 "above" 392 393 93 2 0 0 3 160 true 161 .none (.ref 162) (.ref 163) (.ref 164) 398 93 399)::
(nat_lit 166,f1 "above" "above" (Pv.top 28) "papervault.nodes" 327 165)::
(nat_lit 167,tO #[])::
(nat_lit 169,tO #[.str "node" 406,.str "key" 407])::
(nat_lit 170,tO #[])::
(nat_lit 172,cO "side_of" 403 "side_of" 404 405 100 2 0 0 3 167 true 168 .none (.ref 169) (.ref 170) (.ref 171) 408 100 409)::
(nat_lit 173,f1 "side_of" "side_of" (Pv.top 30) "papervault.trees" 401 172)::
(nat_lit 174,tO #[])::
(nat_lit 176,tO #[.str "vault" 414,.str "root" 415,.str "key" 416,.str "way" 417,.str "count" 418,.str "node" 419])::
(nat_lit 177,tO #[])::
(nat_lit 179,cO "way_to" 411 "way_to" 412 413 102 3 0 0 3 174 true 175 .none (.ref 176) (.ref 177) (.ref 178) 420 102 421)::
(nat_lit 180,f1 "way_to" "way_to" (Pv.top 31) "papervault.trees" 401 179)::
(nat_lit 181,tO #[])::
(nat_lit 183,tO #[.str "way" 426,.str "key" 427])::
(nat_lit 184,tO #[])::
(nat_lit 186,cO "ends_at" 423 "ends_at" 424 425 113 2 0 0 3 181 true 182 .none (.ref 183) (.ref 184) (.ref 185) 428 113 429)::
(nat_lit 187,f1 "ends_at" "ends_at" (Pv.top 32) "papervault.trees" 401 186)::
(nat_lit 188,tO #[])::
(nat_lit 190,tO #[.str "vault" 434,.str "root" 435,.str "key" 436,.str "way" 437])::
(nat_lit 191,tO #[])::
(nat_lit 193,cO "found" 431 "found" 432 433 115 3 0 0 3 188 true 189 .none (.ref 190) (.ref 191) (.ref 192) 438 115 439)::
(nat_lit 194,f1 "found" "found" (Pv.top 33) "papervault.trees" 401 193)::
(nat_lit 195,tO #[])::
(nat_lit 197,tO #[.str "low" 444,.str "high" 445])::
(nat_lit 198,tO #[])::
(nat_lit 200,cO "is_empty" 441 "is_empty" 442 443 118 2 0 0 3 195 true 196 .none (.ref 197) (.ref 198) (.ref 199) 446 118 447)::
(nat_lit 201,f1 "is_empty" "is_empty" (Pv.top 34) "papervault.trees" 401 200)::
(nat_lit 202,tO #[])::
(nat_lit 204,tO #[.str "node" 452,.str "low" 453])::
(nat_lit 205,tO #[])::
(nat_lit 207,cO "goes_left" 449 "goes_left" 450 451 120 2 0 0 3 202 true 203 .none (.ref 204) (.ref 205) (.ref 206) 454 120 455)::
(nat_lit 208,f1 "goes_left" "goes_left" (Pv.top 35) "papervault.trees" 401 207)::
(nat_lit 209,tO #[])::
(nat_lit 211,tO #[.str "node" 460,.str "high" 461])::
(nat_lit 212,tO #[])::
(nat_lit 214,cO "goes_right" 457 "goes_right" 458 459 122 2 0 0 3 209 true 210 .none (.ref 211) (.ref 212) (.ref 213) 462 122 463)::
(nat_lit 215,f1 "goes_right" "goes_right" (Pv.top 36) "papervault.trees" 401 214)::
(nat_lit 216,tO #[])::
(nat_lit 218,tO #[.str "vault" 468,.str "node" 469,.str "left" 470,.str "right" 471])::
(nat_lit 219,tO #[])::
(nat_lit 221,cO "refuse_sum" 465 "refuse_sum" 466 467 124 2 0 0 3 216 true 217 .none (.ref 218) (.ref 219) (.ref 220) 472 124 473)::
(nat_lit 222,f1 "refuse_sum" "refuse_sum" (Pv.top 37) "papervault.trees" 401 221)::
(nat_lit 223,tO #[])::
(nat_lit 225,tO #[.str "vault" 478,.str "root" 479,.str "low" 480,.str "high" 481,.str "pairs" 482,.str "begun" 483,.str "count" 484,.str "node" 485])::
(nat_lit 226,tO #[])::
(nat_lit 228,cO "stretch" 475 "stretch" 476 477 129 4 0 0 3 223 true 224 .none (.ref 225) (.ref 226) (.ref 227) 486 129 487)::
(nat_lit 229,f1 "stretch" "stretch" (Pv.top 38) "papervault.trees" 401 228)::
(nat_lit 230,tO #[])::
(nat_lit 232,tO #[.str "vault" 492,.str "root" 493,.str "key" 494,.str "many" 495,.str "node" 496])::
(nat_lit 233,tO #[])::
(nat_lit 235,cO "count_ahead" 489 "count_ahead" 490 491 150 3 0 0 3 230 true 231 .none (.ref 232) (.ref 233) (.ref 234) 497 150 498)::
(nat_lit 236,f1 "count_ahead" "count_ahead" (Pv.top 39) "papervault.trees" 401 235)::
(nat_lit 237,tO #[])::
(nat_lit 239,tO #[.str "vault" 503,.str "root" 504,.str "low" 505,.str "high" 506,.str "many" 507])::
(nat_lit 240,tO #[])::
(nat_lit 242,cO "counted" 500 "counted" 501 502 159 4 0 0 3 237 true 238 .none (.ref 239) (.ref 240) (.ref 241) 508 159 509)::
(nat_lit 243,f1 "counted" "counted" (Pv.top 40) "papervault.trees" 401 242)::
(nat_lit 244,tO #[])::
(nat_lit 246,tO #[.str "vault" 514,.str "root" 515,.str "number" 516,.str "count" 517,.str "node" 518,.str "left" 519])::
(nat_lit 247,tO #[])::
(nat_lit 249,cO "nth" 511 "nth" 512 513 166 3 0 0 3 244 true 245 .none (.ref 246) (.ref 247) (.ref 248) 520 166 521)::
(nat_lit 250,f1 "nth" "nth" (Pv.top 41) "papervault.trees" 401 249)::
(nat_lit 251,tO #[])::
(nat_lit 253,tO #[.str "node" 526,.str "side" 527,.str "root" 528,.str "count" 529])::
(nat_lit 254,tO #[])::
(nat_lit 256,cO "with_tree" 523 "with_tree" 524 525 184 4 0 0 3 251 true 252 .none (.ref 253) (.ref 254) (.ref 255) 530 184 531)::
(nat_lit 257,f1 "with_tree" "with_tree" (Pv.top 42) "papervault.trees" 401 256)::
(nat_lit 258,tO #[])::
(nat_lit 260,tO #[.str "vault" 536,.str "way" 537,.str "key" 538,.str "root" 539,.str "more" 540,.str "node" 541])::
(nat_lit 261,tO #[])::
(nat_lit 263,cO "hung" 533 "hung" 534 535 188 5 0 0 3 258 true 259 .none (.ref 260) (.ref 261) (.ref 262) 542 188 543)::
(nat_lit 264,f1 "hung" "hung" (Pv.top 43) "papervault.trees" 401 263)::
(nat_lit 265,tO #[])::
(nat_lit 267,tO #[.str "vault" 548,.str "way" 549,.str "key" 550,.str "root" 551,.str "count" 552,.str "left" 553,.str "left_count" 554,.str "right" 555,.str "right_count" 556,.str "node" 557])::
(nat_lit 268,tO #[])::
(nat_lit 270,cO "parted" 545 "parted" 546 547 192 5 0 0 3 265 true 266 .none (.ref 267) (.ref 268) (.ref 269) 558 192 559)::
(nat_lit 271,f1 "parted" "parted" (Pv.top 44) "papervault.trees" 401 270)::
(nat_lit 272,tO #[])::
(nat_lit 274,tO #[.str "way" 564,.str "key" 565,.str "number" 566,.str "node" 567])::
(nat_lit 275,tO #[])::
(nat_lit 277,cO "place_in" 561 "place_in" 562 563 205 2 0 0 3 272 true 273 .none (.ref 274) (.ref 275) (.ref 276) 568 205 569)::
(nat_lit 278,f1 "place_in" "place_in" (Pv.top 45) "papervault.trees" 401 277)::
(nat_lit 279,tO #[])::
(nat_lit 281,tO #[.str "vault" 574,.str "root" 575,.str "key" 576,.str "worth" 577,.str "way" 578,.str "own" 579,.str "new" 580,.str "place" 581,.str "trees" 582,.str "count" 583])::
(nat_lit 282,tO #[])::
(nat_lit 284,cO "put" 571 "put" 572 573 210 4 0 0 3 279 true 280 .none (.ref 281) (.ref 282) (.ref 283) 584 210 585)::
(nat_lit 285,f1 "put" "put" (Pv.top 46) "papervault.trees" 401 284)::
(nat_lit 286,tO #[])::
(nat_lit 288,tO #[.str "vault" 590,.str "root" 591,.str "key" 592,.str "way" 593,.str "own" 594])::
(nat_lit 289,tO #[])::
(nat_lit 291,cO "cut" 587 "cut" 588 589 221 3 0 0 3 286 true 287 .none (.ref 288) (.ref 289) (.ref 290) 595 221 596)::
(nat_lit 292,f1 "cut" "cut" (Pv.top 47) "papervault.trees" 401 291)::
(nat_lit 293,tO #[])::
(nat_lit 295,tO #[.str "vault" 601,.str "left" 602,.str "right" 603,.str "count" 604,.str "left_count" 605,.str "right_count" 606,.str "down" 607,.str "one" 608,.str "other" 609,.str "both" 610,.str "root" 611,.str "step" 612])::
(nat_lit 296,tO #[])::
(nat_lit 298,cO "joined" 598 "joined" 599 600 227 4 0 0 3 293 true 294 .none (.ref 295) (.ref 296) (.ref 297) 613 227 614)::
(nat_lit 299,f1 "joined" "joined" (Pv.top 48) "papervault.trees" 401 298)::
(nat_lit 300,tO #[])::
(nat_lit 303,cO "rising" 618 "rising" 619 620 248 1 0 0 3 300 true 301 .none .none .none (.ref 302) 621 248 622)::
(nat_lit 304,f1 "rising" "rising" (Pv.top 50) "papervault.vaults" 616 303)::
(nat_lit 312,tO #[])::
(nat_lit 314,tO #[.str "self" 639])::
(nat_lit 315,tO #[])::
(nat_lit 317,cO "__init__" 636 "Vault.__init__" 637 638 252 1 0 0 3 312 true 313 .none (.ref 314) (.ref 315) (.ref 316) 640 252 641)::
(nat_lit 318,f1 "__init__" "Vault.__init__" (L2.inClass (Pv.top 51) 0) "papervault.vaults" 616 317)::
(nat_lit 319,tO #[])::
(nat_lit 321,tO #[.str "self" 646,.str "number" 647,.str "thing" 648])::
(nat_lit 322,tO #[])::
(nat_lit 324,cO "refuse_clash" 643 "Vault.refuse_clash" 644 645 255 3 0 0 3 319 true 320 .none (.ref 321) (.ref 322) (.ref 323) 649 255 650)::
(nat_lit 325,f1 "refuse_clash" "Vault.refuse_clash" (L2.inClass (Pv.top 51) 1) "papervault.vaults" 616 324)::
(nat_lit 326,tO #[])::
(nat_lit 328,tO #[.str "self" 655,.str "thing" 656,.str "number" 657])::
(nat_lit 329,tO #[])::
(nat_lit 331,cO "lay" 652 "Vault.lay" 653 654 259 2 0 0 3 326 true 327 .none (.ref 328) (.ref 329) (.ref 330) 658 259 659)::
(nat_lit 332,f1 "lay" "Vault.lay" (L2.inClass (Pv.top 51) 2) "papervault.vaults" 616 331)::
(nat_lit 333,tO #[])::
(nat_lit 335,tO #[.str "self" 664,.str "number" 665])::
(nat_lit 336,tO #[])::
(nat_lit 338,cO "thing" 661 "Vault.thing" 662 663 265 2 0 0 3 333 true 334 .none (.ref 335) (.ref 336) (.ref 337) 666 265 667)::
(nat_lit 339,f1 "thing" "Vault.thing" (L2.inClass (Pv.top 51) 3) "papervault.vaults" 616 338)::
(nat_lit 340,tO #[.str "laid" 669])::
(nat_lit 341,dO #[dE P "__module__" 631 (.str "papervault.vaults" 616),dE P "__firstlineno__" 635 (.int 250 634),dE P "__init__" 642 (.ref 318),dE P "refuse_clash" 651 (.ref 325),dE P "lay" 660 (.ref 332),dE P "thing" 668 (.ref 339),dE P "__static_attributes__" 670 (.ref 340),dE P "__dict__" 672 (.ref 343),dE P "__weakref__" 674 (.ref 344),dE P "__doc__" 675 .none] 4)::
(nat_lit 342,.mk (.type "type") none (.cls (ClassData.mk "Vault" [.type "object"] [.ref 342,.type "object"] 341 "Vault" true [] [.ref 363,.ref 403] false none false)) #[none,none,some (.str "Vault" 624),some (.str "Vault" 632),some (.builtin "object.__new__"),some (.bool true)])::
(nat_lit 343,.mk (.type "getset_descriptor") none (.fields #[.str "__dict__" 671,.ref 342,.builtin "function.__dict__",.builtin "function.__dict__#set"]) #[])::
(nat_lit 344,.mk (.type "getset_descriptor") none (.fields #[.str "__weakref__" 673,.ref 342,.builtin "ExceptionGroup.__weakref__",.none]) #[])::
(nat_lit 347,tO #[.ref 342])::
(nat_lit 354,tO #[])::
(nat_lit 356,tO #[.str "self" 693])::
(nat_lit 357,tO #[])::
(nat_lit 359,cO "things" 690 "Keeper.things" 691 692 271 1 0 0 3 354 true 355 .none (.ref 356) (.ref 357) (.ref 358) 694 271 695)::
(nat_lit 360,f1 "things" "Keeper.things" (L2.inClass (Pv.top 52) 0) "papervault.vaults" 616 359)::
(nat_lit 361,tO #[])::
(nat_lit 362,dO #[dE P "__module__" 685 (.str "papervault.vaults" 616),dE P "__firstlineno__" 689 (.int 269 688),dE P "things" 696 (.ref 360),dE P "__static_attributes__" 697 (.ref 361),dE P "__doc__" 698 .none] 2)::
(nat_lit 363,.mk (.type "type") none (.cls (ClassData.mk "Keeper" [.ref 342] [.ref 363,.ref 342,.type "object"] 362 "Keeper" true [] [] false none false)) #[some (.ref 347),none,some (.str "Keeper" 678),some (.str "Keeper" 686),some (.builtin "object.__new__"),some (.bool true)])::
(nat_lit 366,tO #[.ref 342])::
(nat_lit 373,tO #[])::
(nat_lit 375,tO #[.str "self" 716,.str "keeper" 717])::
(nat_lit 376,tO #[])::
(nat_lit 378,cO "__init__" 713 "Reader.__init__" 714 715 275 2 0 0 3 373 true 374 .none (.ref 375) (.ref 376) (.ref 377) 718 275 719)::
(nat_lit 379,f1 "__init__" "Reader.__init__" (L2.inClass (Pv.top 53) 0) "papervault.vaults" 616 378)::
(nat_lit 380,tO #[])::
(nat_lit 382,tO #[.str "self" 724,.str "thing" 725,.str "number" 726])::
(nat_lit 383,tO #[])::
(nat_lit 385,cO "lay" 721 "Reader.lay" 722 723 280 2 0 0 3 380 true 381 .none (.ref 382) (.ref 383) (.ref 384) 727 280 728)::
(nat_lit 386,f1 "lay" "Reader.lay" (L2.inClass (Pv.top 53) 1) "papervault.vaults" 616 385)::
(nat_lit 387,tO #[])::
(nat_lit 389,tO #[.str "self" 733,.str "number" 734,.str "read" 735])::
(nat_lit 390,tO #[])::
(nat_lit 392,cO "thing" 730 "Reader.thing" 731 732 287 2 0 0 3 387 true 388 .none (.ref 389) (.ref 390) (.ref 391) 736 287 737)::
(nat_lit 393,f1 "thing" "Reader.thing" (L2.inClass (Pv.top 53) 2) "papervault.vaults" 616 392)::
(nat_lit 394,tO #[])::
(nat_lit 396,tO #[.str "self" 742])::
(nat_lit 397,tO #[])::
(nat_lit 399,cO "paper" 739 "Reader.paper" 740 741 294 1 0 0 3 394 true 395 .none (.ref 396) (.ref 397) (.ref 398) 743 294 744)::
(nat_lit 400,f1 "paper" "Reader.paper" (L2.inClass (Pv.top 53) 3) "papervault.vaults" 616 399)::
(nat_lit 401,tO #[.str "keeper" 746,.str "noted" 747])::
(nat_lit 402,dO #[dE P "__module__" 708 (.str "papervault.vaults" 616),dE P "__firstlineno__" 712 (.int 273 711),dE P "__init__" 720 (.ref 379),dE P "lay" 729 (.ref 386),dE P "thing" 738 (.ref 393),dE P "paper" 745 (.ref 400),dE P "__static_attributes__" 748 (.ref 401),dE P "__doc__" 749 .none] 2)::
(nat_lit 403,.mk (.type "type") none (.cls (ClassData.mk "Reader" [.ref 342] [.ref 403,.ref 342,.type "object"] 402 "Reader" true [] [] false none false)) #[some (.ref 366),none,some (.str "Reader" 701),some (.str "Reader" 709),some (.builtin "object.__new__"),some (.bool true)])::
(nat_lit 406,tO #[])::
(nat_lit 408,tO #[.str "script" 757,.str "k" 758])::
(nat_lit 409,tO #[])::
(nat_lit 411,cO "_law_cell_at" 754 "_law_cell_at" 755 756 297 2 0 0 3 406 true 407 .none (.ref 408) (.ref 409) (.ref 410) 759 297 760)::
(nat_lit 412,f1 "_law_cell_at" "_law_cell_at" (Pv.top 55) "law_papervault_k36_what_is_read" 752 411)::
(nat_lit 413,tO #[])::
(nat_lit 415,tO #[.str "cell" 765,.str "k" 766,.str "one" 767])::
(nat_lit 416,tO #[])::
(nat_lit 418,cO "_law_mix" 762 "_law_mix" 763 764 301 2 0 0 3 413 true 414 .none (.ref 415) (.ref 416) (.ref 417) 768 301 769)::
(nat_lit 419,f1 "_law_mix" "_law_mix" (Pv.top 56) "law_papervault_k36_what_is_read" 752 418)::
(nat_lit 420,tO #[])::
(nat_lit 422,tO #[.str "cell" 774,.str "way" 775,.str "least" 776,.str "xs" 777,.str "k" 778,.str "wide" 779])::
(nat_lit 423,tO #[])::
(nat_lit 425,cO "_law_parts" 771 "_law_parts" 772 773 305 3 0 0 3 420 true 421 .none (.ref 422) (.ref 423) (.ref 424) 780 305 781)::
(nat_lit 426,f1 "_law_parts" "_law_parts" (Pv.top 57) "law_papervault_k36_what_is_read" 752 425)::
(nat_lit 427,tO #[])::
(nat_lit 429,tO #[.str "number" 786,.str "many" 787,.str "signs" 788,.str "text" 789,.str "k" 790])::
(nat_lit 430,tO #[])::
(nat_lit 432,cO "_law_text" 783 "_law_text" 784 785 315 2 0 0 3 427 true 428 .none (.ref 429) (.ref 430) (.ref 431) 791 315 792)::
(nat_lit 433,f1 "_law_text" "_law_text" (Pv.top 58) "law_papervault_k36_what_is_read" 752 432)::
(nat_lit 434,tO #[])::
(nat_lit 436,tO #[.str "cell" 797,.str "way" 798,.str "xs" 799,.str "some" 800])::
(nat_lit 437,tO #[])::
(nat_lit 439,cO "_law_key" 794 "_law_key" 795 796 323 2 0 0 3 434 true 435 .none (.ref 436) (.ref 437) (.ref 438) 801 323 802)::
(nat_lit 440,f1 "_law_key" "_law_key" (Pv.top 59) "law_papervault_k36_what_is_read" 752 439)::
(nat_lit 441,tO #[])::
(nat_lit 443,tO #[.str "cell" 807,.str "way" 808,.str "xs" 809])::
(nat_lit 444,tO #[])::
(nat_lit 446,cO "_law_worth" 804 "_law_worth" 805 806 328 2 0 0 3 441 true 442 .none (.ref 443) (.ref 444) (.ref 445) 810 328 811)::
(nat_lit 447,f1 "_law_worth" "_law_worth" (Pv.top 60) "law_papervault_k36_what_is_read" 752 446)::
(nat_lit 448,tO #[])::
(nat_lit 450,tO #[.str "thing" 816])::
(nat_lit 451,tO #[])::
(nat_lit 453,cO "_law_sort" 813 "_law_sort" 814 815 331 1 0 0 3 448 true 449 .none (.ref 450) (.ref 451) (.ref 452) 817 331 818)::
(nat_lit 454,f1 "_law_sort" "_law_sort" (Pv.top 61) "law_papervault_k36_what_is_read" 752 453)::
(nat_lit 455,tO #[])::
(nat_lit 457,tO #[.str "one" 823,.str "other" 824,.str "k" 825])::
(nat_lit 458,tO #[])::
(nat_lit 460,cO "_law_ahead" 820 "_law_ahead" 821 822 339 2 0 0 3 455 true 456 .none (.ref 457) (.ref 458) (.ref 459) 826 339 827)::
(nat_lit 461,f1 "_law_ahead" "_law_ahead" (Pv.top 62) "law_papervault_k36_what_is_read" 752 460)::
(nat_lit 462,tO #[])::
(nat_lit 464,tO #[.str "pairs" 832,.str "key" 833,.str "worth" 834,.str "k" 835])::
(nat_lit 465,tO #[])::
(nat_lit 467,cO "_law_put_in" 829 "_law_put_in" 830 831 352 3 0 0 3 462 true 463 .none (.ref 464) (.ref 465) (.ref 466) 836 352 837)::
(nat_lit 468,f1 "_law_put_in" "_law_put_in" (Pv.top 63) "law_papervault_k36_what_is_read" 752 467)::
(nat_lit 469,tO #[])::
(nat_lit 471,tO #[.str "keeper" 842,.str "root" 843,.str "key" 844,.str "way" 845,.str "node" 846])::
(nat_lit 472,tO #[])::
(nat_lit 474,cO "_law_way" 839 "_law_way" 840 841 359 3 0 0 3 469 true 470 .none (.ref 471) (.ref 472) (.ref 473) 847 359 848)::
(nat_lit 475,f1 "_law_way" "_law_way" (Pv.top 64) "law_papervault_k36_what_is_read" 752 474)::
(nat_lit 476,tO #[])::
(nat_lit 478,tO #[.str "keeper" 853,.str "root" 854,.str "side" 855,.str "way" 856,.str "node" 857])::
(nat_lit 479,tO #[])::
(nat_lit 481,cO "_law_edge" 850 "_law_edge" 851 852 368 3 0 0 3 476 true 477 .none (.ref 478) (.ref 479) (.ref 480) 858 368 859)::
(nat_lit 482,f1 "_law_edge" "_law_edge" (Pv.top 65) "law_papervault_k36_what_is_read" 752 481)::
(nat_lit 483,tO #[])::
(nat_lit 485,tO #[.str "keeper" 864,.str "root" 865,.str "key" 866,.str "way" 867])::
(nat_lit 486,tO #[])::
(nat_lit 488,cO "_law_long_way" 861 "_law_long_way" 862 863 375 3 0 0 3 483 true 484 .none (.ref 485) (.ref 486) (.ref 487) 868 375 869)::
(nat_lit 489,f1 "_law_long_way" "_law_long_way" (Pv.top 66) "law_papervault_k36_what_is_read" 752 488)::
(nat_lit 490,tO #[])::
(nat_lit 492,tO #[.str "keeper" 874,.str "way" 875,.str "nodes" 876,.str "node" 877,.str "root" 878])::
(nat_lit 493,tO #[])::
(nat_lit 495,cO "_law_kids" 871 "_law_kids" 872 873 380 2 0 0 3 490 true 491 .none (.ref 492) (.ref 493) (.ref 494) 879 380 880)::
(nat_lit 496,f1 "_law_kids" "_law_kids" (Pv.top 67) "law_papervault_k36_what_is_read" 752 495)::
(nat_lit 497,tO #[])::
(nat_lit 499,tO #[.str "vault" 885,.str "root" 886,.str "kind" 887,.str "key" 888,.str "other" 889,.str "number" 890])::
(nat_lit 500,tO #[])::
(nat_lit 502,cO "_law_asked" 882 "_law_asked" 883 884 387 6 0 0 3 497 true 498 .none (.ref 499) (.ref 500) (.ref 501) 891 387 892)::
(nat_lit 503,f1 "_law_asked" "_law_asked" (Pv.top 68) "law_papervault_k36_what_is_read" 752 502)::
(nat_lit 504,tO #[])::
(nat_lit 506,tO #[.str "keeper" 897,.str "root" 898,.str "kind" 899,.str "key" 900,.str "other" 901,.str "pairs" 902,.str "number" 903])::
(nat_lit 507,tO #[])::
(nat_lit 509,cO "_law_let" 894 "_law_let" 895 896 397 7 0 0 3 504 true 505 .none (.ref 506) (.ref 507) (.ref 508) 904 397 905)::
(nat_lit 510,f1 "_law_let" "_law_let" (Pv.top 69) "law_papervault_k36_what_is_read" 752 509)::
(nat_lit 511,tO #[])::
(nat_lit 514,cO "_law_paper_right" 907 "_law_paper_right" 908 909 407 2 0 0 3 511 true 512 .none .none .none (.ref 513) 910 407 911)::
(nat_lit 515,f1 "_law_paper_right" "_law_paper_right" (Pv.top 70) "law_papervault_k36_what_is_read" 752 514)::
(nat_lit 516,tO #[])::
(nat_lit 518,tO #[.str "keeper" 916,.str "root" 917,.str "pairs" 918,.str "cell" 919,.str "way" 920,.str "key" 921,.str "other" 922,.str "kind" 923,.str "number" 924,.str "reader" 925,.str "many" 926,.str "told" 927,.str "unread" 928])::
(nat_lit 519,tO #[])::
(nat_lit 521,cO "_law_right" 913 "_law_right" 914 915 415 5 0 0 3 516 true 517 .none (.ref 518) (.ref 519) (.ref 520) 929 415 930)::
(nat_lit 522,f1 "_law_right" "_law_right" (Pv.top 71) "law_papervault_k36_what_is_read" 752 521)::
(nat_lit 523,tO #[])::
(nat_lit 525,tO #[.str "script" 935,.str "way" 936,.str "keeper" 937,.str "root" 938,.str "pairs" 939,.str "cell" 940,.str "key" 941,.str "worth" 942])::
(nat_lit 526,tO #[])::
(nat_lit 528,cO "_law_walked" 932 "_law_walked" 933 934 435 1 0 0 3 523 true 524 .none (.ref 525) (.ref 526) (.ref 527) 943 435 944)::
(nat_lit 529,f1 "_law_walked" "_law_walked" (Pv.top 72) "law_papervault_k36_what_is_read" 752 528)::
(nat_lit 530,tO #[])::
(nat_lit 532,tO #[.str "script" 949,.str "told" 950,.str "clash" 951,.str "e" 952])::
(nat_lit 533,tO #[])::
(nat_lit 535,cO "law" 946 "law" 947 948 449 1 0 0 3 530 true 531 .none (.ref 532) (.ref 533) (.ref 534) 953 449 954)::
(nat_lit 536,f1 "law" "law" (Pv.top 73) "law_papervault_k36_what_is_read" 752 535)::
[]
noncomputable def KA:List Addr:=rgs [(2,2),(15,1),(22,4),(28,1),(35,3),(40,1),(47,3),(52,1),(59,1),(61,2),(64,5),(71,1),(73,2),(76,3),(81,3),(85,2),(88,3),(92,2),(95,3),(99,2),(102,3),(106,2),(109,3),(113,2),(116,3),(120,2),(123,3),(127,2),(130,3),(134,2),(137,3),(141,2),(144,3),(148,2),(151,3),(155,2),(158,3),(162,2),(165,3),(169,2),(172,3),(176,2),(179,3),(183,2),(186,3),(190,2),(193,3),(197,2),(200,3),(204,2),(207,3),(211,2),(214,3),(218,2),(221,3),(225,2),(228,3),(232,2),(235,3),(239,2),(242,3),(246,2),(249,3),(253,2),(256,3),(260,2),(263,3),(267,2),(270,3),(274,2),(277,3),(281,2),(284,3),(288,2),(291,3),(295,2),(298,3),(303,2),(312,1),(314,2),(317,3),(321,2),(324,3),(328,2),(331,3),(335,2),(338,7),(347,1),(354,1),(356,2),(359,5),(366,1),(373,1),(375,2),(378,3),(382,2),(385,3),(389,2),(392,3),(396,2),(399,5),(406,1),(408,2),(411,3),(415,2),(418,3),(422,2),(425,3),(429,2),(432,3),(436,2),(439,3),(443,2),(446,3),(450,2),(453,3),(457,2),(460,3),(464,2),(467,3),(471,2),(474,3),(478,2),(481,3),(485,2),(488,3),(492,2),(495,3),(499,2),(502,3),(506,2),(509,3),(514,3),(518,2),(521,3),(525,2),(528,3),(532,2),(535,2)]
variable (P:Params)
noncomputable def OL:List Obj:=[boot_o_0 P,
boot_o_1 P,
boot_o_4 P,
boot_o_5 P,
boot_o_6 P,
boot_o_7 P,
boot_o_8 P,
boot_o_9 P,
boot_o_10 P,
boot_o_7 P,
.mk .none none (.fields #[.int 2 0,.int 0 0,.ref 20,.int 4 0,.int 0 0,.ref 33,.int 6 0,.int 0 0,.ref 45,.int 8 0,.int 0 0,.ref 57,.int 14 0,.int 0 0,.ref 76,.int 19 0,.int 0 0,.ref 81,.int 32 0,.int 0 0,.ref 88,.int 38 0,.int 0 0,.ref 95,.int 40 0,.int 0 0,.ref 102,.int 48 0,.int 0 0,.ref 109,.int 57 0,.int 0 0,.ref 116,.int 70 0,.int 0 0,.ref 123,.int 75 0,.int 0 0,.ref 130,.int 83 0,.int 0 0,.ref 137,.int 85 0,.int 0 0,.ref 144,.int 87 0,.int 0 0,.ref 151,.int 91 0,.int 0 0,.ref 158,.int 93 0,.int 0 0,.ref 165,.int 100 0,.int 0 0,.ref 172,.int 102 0,.int 0 0,.ref 179,.int 113 0,.int 0 0,.ref 186,.int 115 0,.int 0 0,.ref 193,.int 118 0,.int 0 0,.ref 200,.int 120 0,.int 0 0,.ref 207,.int 122 0,.int 0 0,.ref 214,.int 124 0,.int 0 0,.ref 221,.int 129 0,.int 0 0,.ref 228,.int 150 0,.int 0 0,.ref 235,.int 159 0,.int 0 0,.ref 242,.int 166 0,.int 0 0,.ref 249,.int 184 0,.int 0 0,.ref 256,.int 188 0,.int 0 0,.ref 263,.int 192 0,.int 0 0,.ref 270,.int 205 0,.int 0 0,.ref 277,.int 210 0,.int 0 0,.ref 284,.int 221 0,.int 0 0,.ref 291,.int 227 0,.int 0 0,.ref 298,.int 248 0,.int 0 0,.ref 303,.int 250 0,.int 0 0,.ref 310,.int 269 0,.int 0 0,.ref 352,.int 273 0,.int 0 0,.ref 371,.int 297 0,.int 0 0,.ref 411,.int 301 0,.int 0 0,.ref 418,.int 305 0,.int 0 0,.ref 425,.int 315 0,.int 0 0,.ref 432,.int 323 0,.int 0 0,.ref 439,.int 328 0,.int 0 0,.ref 446,.int 331 0,.int 0 0,.ref 453,.int 339 0,.int 0 0,.ref 460,.int 352 0,.int 0 0,.ref 467,.int 359 0,.int 0 0,.ref 474,.int 368 0,.int 0 0,.ref 481,.int 375 0,.int 0 0,.ref 488,.int 380 0,.int 0 0,.ref 495,.int 387 0,.int 0 0,.ref 502,.int 397 0,.int 0 0,.ref 509,.int 407 0,.int 0 0,.ref 514,.int 415 0,.int 0 0,.ref 521,.int 435 0,.int 0 0,.ref 528,.int 449 0,.int 0 0,.ref 535]) #[],
cO "<module>" 182 "<module>" 183 184 1 0 0 0 0 11 false 12 .none .none .none .none 185 1 186,
.mk (.type "frame") none .plain #[some (.ref 13),some (.ref 3),some (.ref 3),none,some (.str "__main__" 164),none,some (.ref 0)],
.mk (.type "builtin_function_or_method") none (.fields #[.builtin "type.__prepare__",.type "type"]) #[],
dO #[dE P "__module__" 196 (.str "papervault.errors" 187),dE P "__qualname__" 198 (.str "VaultError" 197),dE P "__firstlineno__" 200 (.int 2 199),dE P "__static_attributes__" 201 (.ref 22)] 4,
boot_o_7 P,
boot_o_8 P,
cO "VaultError" 191 "VaultError" 192 193 2 0 0 0 0 18 false 19 .none .none .none .none 194 2 195,
.mk (.type "frame") none .plain #[some (.ref 20),some (.ref 3),some (.ref 17),none,some (.str "papervault.errors" 187),none,some (.ref 0)],
.mk (.type "super") none (.fields #[.ref 24,.ref 24,.ref 24]) #[],
.mk (.type "builtin_function_or_method") none (.fields #[.builtin "object.__init_subclass__",.ref 24]) #[],
.mk (.type "builtin_function_or_method") none (.fields #[.builtin "type.__prepare__",.type "type"]) #[],
dO #[dE P "__module__" 214 (.str "papervault.errors" 187),dE P "__qualname__" 216 (.str "NoPaper" 215),dE P "__firstlineno__" 218 (.int 4 217),dE P "__static_attributes__" 219 (.ref 35)] 4,
boot_o_7 P,
boot_o_8 P,
cO "NoPaper" 209 "NoPaper" 210 211 4 0 0 0 0 31 false 32 .none .none .none .none 212 4 213,
.mk (.type "frame") none .plain #[some (.ref 33),some (.ref 3),some (.ref 30),none,some (.str "papervault.errors" 187),none,some (.ref 0)],
.mk (.type "super") none (.fields #[.ref 37,.ref 37,.ref 37]) #[],
.mk (.type "builtin_function_or_method") none (.fields #[.builtin "object.__init_subclass__",.ref 37]) #[],
.mk (.type "builtin_function_or_method") none (.fields #[.builtin "type.__prepare__",.type "type"]) #[],
dO #[dE P "__module__" 230 (.str "papervault.errors" 187),dE P "__qualname__" 232 (.str "BadThing" 231),dE P "__firstlineno__" 234 (.int 6 233),dE P "__static_attributes__" 235 (.ref 47)] 4,
boot_o_7 P,
boot_o_8 P,
cO "BadThing" 225 "BadThing" 226 227 6 0 0 0 0 43 false 44 .none .none .none .none 228 6 229,
.mk (.type "frame") none .plain #[some (.ref 45),some (.ref 3),some (.ref 42),none,some (.str "papervault.errors" 187),none,some (.ref 0)],
.mk (.type "super") none (.fields #[.ref 49,.ref 49,.ref 49]) #[],
.mk (.type "builtin_function_or_method") none (.fields #[.builtin "object.__init_subclass__",.ref 49]) #[],
.mk (.type "builtin_function_or_method") none (.fields #[.builtin "type.__prepare__",.type "type"]) #[],
dO #[dE P "__module__" 246 (.str "papervault.errors" 187),dE P "__qualname__" 248 (.str "Clash" 247),dE P "__firstlineno__" 250 (.int 8 249),dE P "__init__" 259 (.ref 65),dE P "__static_attributes__" 262 (.ref 66)] 5,
boot_o_7 P,
.mk .none none (.fields #[.int 10 0,.int 4 0,.ref 64]) #[],
cO "Clash" 241 "Clash" 242 243 8 0 0 0 0 55 false 56 .none .none .none .none 244 8 245,
.mk (.type "frame") none .plain #[some (.ref 57),some (.ref 3),some (.ref 54),none,some (.str "papervault.errors" 187),none,some (.ref 0)],
boot_o_8 P,
f0 "__init__" "Clash.__init__" (L2.inClass (Pv.top 4) 0),
.mk (.type "super") none (.fields #[.ref 68,.ref 68,.ref 68]) #[],
.mk (.type "builtin_function_or_method") none (.fields #[.builtin "object.__init_subclass__",.ref 68]) #[],
boot_o_8 P,
f0 "seal" "seal" (Pv.top 6),
boot_o_8 P,
f0 "codes" "codes" (Pv.top 7),
boot_o_8 P,
f0 "number_of" "number_of" (Pv.top 8),
boot_o_8 P,
f0 "is_whole" "is_whole" (Pv.top 10),
boot_o_8 P,
f0 "kind_of" "kind_of" (Pv.top 11),
boot_o_8 P,
f0 "ahead" "ahead" (Pv.top 12),
boot_o_8 P,
f0 "is_tuple_ahead" "is_tuple_ahead" (Pv.top 13),
boot_o_8 P,
f0 "node_beneath" "node_beneath" (Pv.top 22),
boot_o_8 P,
f0 "is_node" "is_node" (Pv.top 23),
boot_o_8 P,
f0 "is_root" "is_root" (Pv.top 24),
boot_o_8 P,
f0 "size" "size" (Pv.top 25),
boot_o_8 P,
f0 "size_beneath" "size_beneath" (Pv.top 26),
boot_o_8 P,
f0 "rank" "rank" (Pv.top 27),
boot_o_8 P,
f0 "above" "above" (Pv.top 28),
boot_o_8 P,
f0 "side_of" "side_of" (Pv.top 30),
boot_o_8 P,
f0 "way_to" "way_to" (Pv.top 31),
boot_o_8 P,
f0 "ends_at" "ends_at" (Pv.top 32),
boot_o_8 P,
f0 "found" "found" (Pv.top 33),
boot_o_8 P,
f0 "is_empty" "is_empty" (Pv.top 34),
boot_o_8 P,
f0 "goes_left" "goes_left" (Pv.top 35),
boot_o_8 P,
f0 "goes_right" "goes_right" (Pv.top 36),
boot_o_8 P,
f0 "refuse_sum" "refuse_sum" (Pv.top 37),
boot_o_8 P,
f0 "stretch" "stretch" (Pv.top 38),
boot_o_8 P,
f0 "count_ahead" "count_ahead" (Pv.top 39),
boot_o_8 P,
f0 "counted" "counted" (Pv.top 40),
boot_o_8 P,
f0 "nth" "nth" (Pv.top 41),
boot_o_8 P,
f0 "with_tree" "with_tree" (Pv.top 42),
boot_o_8 P,
f0 "hung" "hung" (Pv.top 43),
boot_o_8 P,
f0 "parted" "parted" (Pv.top 44),
boot_o_8 P,
f0 "place_in" "place_in" (Pv.top 45),
boot_o_8 P,
f0 "put" "put" (Pv.top 46),
boot_o_8 P,
f0 "cut" "cut" (Pv.top 47),
boot_o_8 P,
f0 "joined" "joined" (Pv.top 48),
boot_o_8 P,
f0 "rising" "rising" (Pv.top 50),
boot_o_7 P,
.mk (.type "builtin_function_or_method") none (.fields #[.builtin "type.__prepare__",.type "type"]) #[],
dO #[dE P "__module__" 631 (.str "papervault.vaults" 616),dE P "__qualname__" 633 (.str "Vault" 632),dE P "__firstlineno__" 635 (.int 250 634),dE P "__init__" 642 (.ref 318),dE P "refuse_clash" 651 (.ref 325),dE P "lay" 660 (.ref 332),dE P "thing" 668 (.ref 339),dE P "__static_attributes__" 670 (.ref 340)] 8,
boot_o_7 P,
.mk .none none (.fields #[.int 252 0,.int 4 0,.ref 317,.int 255 0,.int 4 0,.ref 324,.int 259 0,.int 4 0,.ref 331,.int 265 0,.int 4 0,.ref 338]) #[],
cO "Vault" 626 "Vault" 627 628 250 0 0 0 0 308 false 309 .none .none .none .none 629 250 630,
.mk (.type "frame") none .plain #[some (.ref 310),some (.ref 3),some (.ref 307),none,some (.str "papervault.vaults" 616),none,some (.ref 0)],
boot_o_8 P,
f0 "__init__" "Vault.__init__" (L2.inClass (Pv.top 51) 0),
boot_o_8 P,
f0 "refuse_clash" "Vault.refuse_clash" (L2.inClass (Pv.top 51) 1),
boot_o_8 P,
f0 "lay" "Vault.lay" (L2.inClass (Pv.top 51) 2),
boot_o_8 P,
f0 "thing" "Vault.thing" (L2.inClass (Pv.top 51) 3),
.mk (.type "super") none (.fields #[.ref 342,.ref 342,.ref 342]) #[],
.mk (.type "builtin_function_or_method") none (.fields #[.builtin "object.__init_subclass__",.ref 342]) #[],
.mk (.type "builtin_function_or_method") none (.fields #[.builtin "type.__prepare__",.type "type"]) #[],
dO #[dE P "__module__" 685 (.str "papervault.vaults" 616),dE P "__qualname__" 687 (.str "Keeper" 686),dE P "__firstlineno__" 689 (.int 269 688),dE P "things" 696 (.ref 360),dE P "__static_attributes__" 697 (.ref 361)] 5,
boot_o_7 P,
.mk .none none (.fields #[.int 271 0,.int 4 0,.ref 359]) #[],
cO "Keeper" 680 "Keeper" 681 682 269 0 0 0 0 350 false 351 .none .none .none .none 683 269 684,
.mk (.type "frame") none .plain #[some (.ref 352),some (.ref 3),some (.ref 349),none,some (.str "papervault.vaults" 616),none,some (.ref 0)],
boot_o_8 P,
f0 "things" "Keeper.things" (L2.inClass (Pv.top 52) 0),
.mk (.type "super") none (.fields #[.ref 363,.ref 363,.ref 363]) #[],
.mk (.type "builtin_function_or_method") none (.fields #[.builtin "object.__init_subclass__",.ref 363]) #[],
.mk (.type "builtin_function_or_method") none (.fields #[.builtin "type.__prepare__",.type "type"]) #[],
dO #[dE P "__module__" 708 (.str "papervault.vaults" 616),dE P "__qualname__" 710 (.str "Reader" 709),dE P "__firstlineno__" 712 (.int 273 711),dE P "__init__" 720 (.ref 379),dE P "lay" 729 (.ref 386),dE P "thing" 738 (.ref 393),dE P "paper" 745 (.ref 400),dE P "__static_attributes__" 748 (.ref 401)] 8,
boot_o_7 P,
.mk .none none (.fields #[.int 275 0,.int 4 0,.ref 378,.int 280 0,.int 4 0,.ref 385,.int 287 0,.int 4 0,.ref 392,.int 294 0,.int 4 0,.ref 399]) #[],
cO "Reader" 703 "Reader" 704 705 273 0 0 0 0 369 false 370 .none .none .none .none 706 273 707,
.mk (.type "frame") none .plain #[some (.ref 371),some (.ref 3),some (.ref 368),none,some (.str "papervault.vaults" 616),none,some (.ref 0)],
boot_o_8 P,
f0 "__init__" "Reader.__init__" (L2.inClass (Pv.top 53) 0),
boot_o_8 P,
f0 "lay" "Reader.lay" (L2.inClass (Pv.top 53) 1),
boot_o_8 P,
f0 "thing" "Reader.thing" (L2.inClass (Pv.top 53) 2),
boot_o_8 P,
f0 "paper" "Reader.paper" (L2.inClass (Pv.top 53) 3),
.mk (.type "super") none (.fields #[.ref 403,.ref 403,.ref 403]) #[],
.mk (.type "builtin_function_or_method") none (.fields #[.builtin "object.__init_subclass__",.ref 403]) #[],
boot_o_8 P,
f0 "_law_cell_at" "_law_cell_at" (Pv.top 55),
boot_o_8 P,
f0 "_law_mix" "_law_mix" (Pv.top 56),
boot_o_8 P,
f0 "_law_parts" "_law_parts" (Pv.top 57),
boot_o_8 P,
f0 "_law_text" "_law_text" (Pv.top 58),
boot_o_8 P,
f0 "_law_key" "_law_key" (Pv.top 59),
boot_o_8 P,
f0 "_law_worth" "_law_worth" (Pv.top 60),
boot_o_8 P,
f0 "_law_sort" "_law_sort" (Pv.top 61),
boot_o_8 P,
f0 "_law_ahead" "_law_ahead" (Pv.top 62),
boot_o_8 P,
f0 "_law_put_in" "_law_put_in" (Pv.top 63),
boot_o_8 P,
f0 "_law_way" "_law_way" (Pv.top 64),
boot_o_8 P,
f0 "_law_edge" "_law_edge" (Pv.top 65),
boot_o_8 P,
f0 "_law_long_way" "_law_long_way" (Pv.top 66),
boot_o_8 P,
f0 "_law_kids" "_law_kids" (Pv.top 67),
boot_o_8 P,
f0 "_law_asked" "_law_asked" (Pv.top 68),
boot_o_8 P,
f0 "_law_let" "_law_let" (Pv.top 69),
boot_o_8 P,
f0 "_law_paper_right" "_law_paper_right" (Pv.top 70),
boot_o_8 P,
f0 "_law_right" "_law_right" (Pv.top 71),
boot_o_8 P,
f0 "_law_walked" "_law_walked" (Pv.top 72),
boot_o_8 P,
f0 "law" "law" (Pv.top 73)]
def FL:List Obj:=wv [2,2,11,1,6,4,2,1,6,3,2,1,6,3,2,1,6,1,1,2,1,5,2,1,1,2,1,3,2,3,1,2,1,3,1,2,1,3,1,2,1,3,1,2,1,3,1,2,1,3,1,2,1,3,1,2,1,3,1,2,1,3,1,2,1,3,1,2,1,3,1,2,1,3,1,2,1,3,1,2,1,3,1,2,1,3,1,2,1,3,1,2,1,3,1,2,1,3,1,2,1,3,1,2,1,3,1,2,1,3,1,2,1,3,1,2,1,3,1,2,1,3,1,2,1,3,1,2,1,3,1,2,1,3,1,2,1,3,1,2,1,3,1,2,1,3,1,2,1,3,1,2,1,3,2,2,7,1,1,2,1,3,1,2,1,3,1,2,1,3,1,2,1,7,2,1,6,1,1,2,1,5,2,1,6,1,1,2,1,3,1,2,1,3,1,2,1,3,1,2,1,5,2,1,1,2,1,3,1,2,1,3,1,2,1,3,1,2,1,3,1,2,1,3,1,2,1,3,1,2,1,3,1,2,1,3,1,2,1,3,1,2,1,3,1,2,1,3,1,2,1,3,1,2,1,3,1,2,1,3,1,2,1,3,2,3,1,2,1,3,1,2,1,3,1,2,1,2] (OL P) ((KK P).map (·.2))
def T0:BT:=bt 12 ((((FL P).take 15).set 3 (oo0 P)).set 12 (boot_o_8 P))
def T1:BT:=bt 12 ((((FL P).take 251).set 3 (oo1 P)).set 12 (oo2 P))
def T2:BT:=bt 12 ((((FL P).take 530).set 3 (oo3 P)).set 12 (oo4 P))
def T3:BT:=bt 12 (FL P)
def HF:Heap:={objs:=⟨FL P⟩}
end
noncomputable def VQ:Program:={PySem.Challenge.pw_papervault_k36_what_is_read with main:={PySem.Challenge.pw_papervault_k36_what_is_read.main with body:=[top 1,top 2,top 3,top 4,top 6,top 7,top 8,top 10,top 11,top 12,top 13,top 15,top 16,top 17,top 18,top 19,top 20,top 21,top 22,top 23,top 24,top 25,top 26,top 27,top 28,top 30,top 31,top 32,top 33,top 34,top 35,top 36,top 37,top 38,top 39,top 40,top 41,top 42,top 43,top 44,top 45,top 46,top 47,top 48,top 50,top 51,top 52,top 53,top 55,top 56,top 57,top 58,top 59,top 60,top 61,top 62,top 63,top 64,top 65,top 66,top 67,top 68,top 69,top 70,top 71,top 72,top 73]}}
noncomputable abbrev RQ:OpenRow:=OpenLaw.row PySem.Challenge.rw_papervault_k36_what_is_read
noncomputable def EV:Env:={scope:=RQ.prog.main.scope,locals:=mainNs,globals:=mainNs,cells:=[],code:=.ref 13,frame:=some 14}
noncomputable abbrev BQ:List Stmt:=behindTheImports RQ.prog
noncomputable abbrev CQ:Code:=.body BQ EV
noncomputable abbrev TQ:List Frame:=[topFrame ⟨0,0,0,0⟩]
noncomputable abbrev ST (t:BT)(n k:Nat)(os:OsState):SharedT:=⟨t,n,{}, #[],{},k,os⟩
theorem go0 (w:World):(λos=>topGo treeTable RQ.prog w 11 (some (.ref 6)) 12 {heap:=boot_heap w.params,drawn:=boot_drawn,toks:=boot_toks,os:=os} (topStub RQ.prog))=λos=>some ((ST (T0 w.params) 15 187 os).abs,⟨denote treeTable CQ,CQ,⟨0,0,0,0⟩,TQ⟩):=by kernel_rfl
theorem go1 (w:World):(λos=>segRun treeTable RQ.prog w 11 (some (.ref 6)) 1 1 (ST (T0 w.params) 15 187 os).abs (blockOf BQ EV CQ ⟨0,0,0,0⟩ TQ))=λos=>some (Flow.next,(ST (T0 w.params) 15 187 os).abs,CQ,⟨0,0,0,0⟩):=by kernel_rfl
theorem pc1 (w:World):(λos=>PySem.W.Fast.tw10110043849684766642 PySem.W.Fast.tw14364793385576792824 RQ.prog w 11 (some (.ref 6)) 1 1822 (ST (T0 w.params) 15 187 os) (piecesOf (BQ.take 42) EV CQ ⟨0,0,0,0⟩ TQ))=λos=>some (Flow.next,ST (T1 w.params) 251 523 os,CQ,⟨166,0,183,15⟩):=by kernel_rfl
theorem sg1 (w:World)(os:OsState):segRunT treeTable RQ.prog w 11 (some (.ref 6)) 1 1822 (ST (T0 w.params) 15 187 os) (piecesOf (BQ.take 42) EV CQ ⟨0,0,0,0⟩ TQ)=some (Flow.next,ST (T1 w.params) 251 523 os,CQ,⟨166,0,183,15⟩):=by rw[PySem.W.Fast.te10110043849684766642,PySem.W.Fast.te14364793385576792824];exact congrFun (pc1 w) os
theorem pc2 (w:World):(λos=>PySem.W.Fast.tw10110043849684766642 PySem.W.Fast.tw14364793385576792824 RQ.prog w 11 (some (.ref 6)) 1 1821 (ST (T1 w.params) 251 523 os) (piecesOf ((BQ.drop 42).take 31) EV CQ ⟨166,0,183,15⟩ TQ))=λos=>some (Flow.next,ST (T2 w.params) 530 946 os,CQ,⟨435,0,448,39⟩):=by kernel_rfl
theorem sg2 (w:World)(os:OsState):segRunT treeTable RQ.prog w 11 (some (.ref 6)) 1 1821 (ST (T1 w.params) 251 523 os) (piecesOf ((BQ.drop 42).take 31) EV CQ ⟨166,0,183,15⟩ TQ)=some (Flow.next,ST (T2 w.params) 530 946 os,CQ,⟨435,0,448,39⟩):=by rw[PySem.W.Fast.te10110043849684766642,PySem.W.Fast.te14364793385576792824];exact congrFun (pc2 w) os
theorem pc3 (w:World):(λos=>PySem.W.Fast.tw10110043849684766642 PySem.W.Fast.tw14364793385576792824 RQ.prog w 11 (some (.ref 6)) 1 41 (ST (T2 w.params) 530 946 os) (piecesOf (((BQ.drop 42).drop 31).take 1) EV CQ ⟨435,0,448,39⟩ TQ))=λos=>some (Flow.next,ST (T3 w.params) 537 956 os,CQ,⟨449,0,458,15⟩):=by kernel_rfl
theorem sg3 (w:World)(os:OsState):segRunT treeTable RQ.prog w 11 (some (.ref 6)) 1 41 (ST (T2 w.params) 530 946 os) (piecesOf (((BQ.drop 42).drop 31).take 1) EV CQ ⟨435,0,448,39⟩ TQ)=some (Flow.next,ST (T3 w.params) 537 956 os,CQ,⟨449,0,458,15⟩):=by rw[PySem.W.Fast.te10110043849684766642,PySem.W.Fast.te14364793385576792824];exact congrFun (pc3 w) os
noncomputable abbrev SF (w:World)(os:OsState):Shared:={heap:=HF w.params,toks:=956,os:=os}
theorem goN (w:World):(λos=>topRun treeTable RQ.prog w 11 (some (.ref 6)) 3 (ST (T3 w.params) 537 956 os).abs ⟨doneF Flow.next,CQ,⟨449,0,458,15⟩,TQ⟩)=λos=>some (SF w os):=by kernel_rfl
theorem goE:(((BQ.drop 42).drop 31).drop 1)=[]:=by kernel_rfl
theorem goA {w:World}{N:Nat}{s r:Shared}{b:List Stmt}{q:Pos}(k:Nat)(h:topRun treeTable RQ.prog w 11 (some (.ref 6)) N s (restOf (b.take k++b.drop k) EV CQ q TQ)=some r):topRun treeTable RQ.prog w 11 (some (.ref 6)) N s (restOf b EV CQ q TQ)=some r:=by rwa[List.take_append_drop] at h
theorem runs (w:World)(os:OsState):topRun treeTable RQ.prog w 11 (some (.ref 6)) (12+(1+(1822+(1821+(41+(3)))))) {heap:=boot_heap w.params,drawn:=boot_drawn,toks:=boot_toks,os:=os} (topStub RQ.prog)=some (SF w os):=by refine go_top (congrFun (go0 w) os) ?_;refine piece_block (congrFun (go1 w) os) ?_;refine goA 42 ?_;refine piece_app (segRun_of (sg1 w os)) ?_;refine goA 31 ?_;refine piece_app (segRun_of (sg2 w os)) ?_;refine goA 1 ?_;refine piece_app (segRun_of (sg3 w os)) ?_;rw[goE];exact piece_nil (congrFun (goN w) os)
noncomputable abbrev SQ (s:Shared):=PySem.W.Fast.tw4187177175401517315 VQ [] [] (λs=>xlAt VQ [] s && recOk (RowW.records (OpenRow.toRowW RQ)) s) true s
theorem zry:[]=importedModules RQ.prog.main.body:=by kernel_rfl
theorem opn (w:World):(fencedOpening treeTable RQ.prog w 3700).map (λs=>(s.heap,s.gens,s.drawn,s.toks))=some (boot_heap w.params, #[],boot_drawn,boot_toks):=by kernel_rfl
theorem obs0 (w:World)(os:OsState):(staticsOk [] (boot_heap w.params) (HF w.params) && namesBound RQ.prog (HF w.params) && gensDone (SF w os) && laidKept (boot_heap w.params) (HF w.params))=true:=by kernel_rfl
theorem obs1 (w:World)(os:OsState):(SQ (SF w os)).1=(openGood VQ []).1:=by kernel_rfl
theorem obs2 (w:World)(os:OsState):(SQ (SF w os)).2.1=(openGood VQ []).2.1:=by kernel_rfl
theorem obs3 (w:World)(os:OsState):(SQ (SF w os)).2.2.1=(openGood VQ []).2.2.1:=by kernel_rfl
theorem obs4 (w:World)(os:OsState):(SQ (SF w os)).2.2.2.1=(openGood VQ []).2.2.2.1:=by kernel_rfl
theorem obs5 (w:World)(os:OsState):(SQ (SF w os)).2.2.2.2.1=(openGood VQ []).2.2.2.2.1:=by kernel_rfl
theorem obs6 (w:World)(os:OsState):(SQ (SF w os)).2.2.2.2.2=(openGood VQ []).2.2.2.2.2:=by kernel_rfl
theorem obs7 (w:World):KA.map (HF w.params).get? =(KK w.params).map λp=>some p.2:=by kernel_rfl
theorem left:LeftO RQ.prog VQ [] (λs=>xlAt VQ [] s && recOk (RowW.records (OpenRow.toRowW RQ)) s) (λs=>KA.map s.heap.get?) (λw=>(KK w.params).map λp=>some p.2) 3700:=by refine LeftO.of_pieces (H₀:=boot_heap) (H₁:=HF) (gs₀:= #[]) (gs₁:= #[]) (d₀:=boot_drawn) (d₁:={}) (k₀:=boot_toks) (k₁:=956) (m₀:=11) (ann:=some (.ref 6)) (M:=12+(1+(1822+(1821+(41+(3)))))) opn (λw=>by kernel_rfl) runs (by kernel_rfl) λw=>funext λos=>?_;rw[<-zry];refine Prod.ext (obs0 w os) (Prod.ext ?_ (obs7 w));rw[PySem.W.Fast.te4187177175401517315];exact Prod.ext (obs1 w os) (Prod.ext (obs2 w os) (Prod.ext (obs3 w os) (Prod.ext (obs4 w os) (Prod.ext (obs5 w os) (obs6 w os)))))
theorem addrs:∀P,KA=(KK P).map (·.1):=λP=>by kernel_rfl
theorem said:PySem.Challenge.rw_papervault_k36_what_is_read.wellSaid=true:=by kernel_rfl
end Pv
namespace L2
open PySem PySem.Spec PyProof.Rows
abbrev Key:=Sum Int Str
noncomputable def zgJ:Key->Value->Bool
 | .inl k,v=>Value.isInt k v
 | .inr x,v=>Value.isStrOf x v
noncomputable def keyH (w:World):Key->Int
 | .inl k=>hashInt k
 | .inr x=>hashStr w x
theorem zay:∀{k:Key} {v:Value},zgJ k v=true->(∃i t,k=Sum.inl i/\v=Value.int i t)\/(∃x t,k=Sum.inr x/\v=Value.str x t)
 | .inl i,v,h=>by obtain⟨t,e⟩:=Value.isInt_shape (k:=i) (v:=v) h;exact .inl ⟨i,t,rfl,e⟩
 | .inr x,v,h=>by obtain⟨t,e⟩:=Value.isStrOf_shape (x:=x) (v:=v) h;exact .inr ⟨x,t,rfl,e⟩
theorem zlP (i:Int)(t:Tok):zgJ (.inl i) (.int i t)=true:=by simp[zgJ,Value.isInt]
theorem zl4 (x:Str)(t:Tok):zgJ (.inr x) (.str x t)=true:=by simp[zgJ,Value.isStrOf]
noncomputable abbrev _root_.Jd:=@decide_eq_false
theorem zqb (a b:Int):decide ((Sum.inl a:Key)=Sum.inl b)=(a==b):=by
 by_cases e:a=b
 ·subst e;simp
 ·have h:¬(Sum.inl a:Key)=Sum.inl b:=λq=>e (Sum.inl.inj q);rw[Jd h];exact(beq_eq_false_iff_ne.mpr e).symm
theorem zpV (a b:Str):decide ((Sum.inr a:Key)=Sum.inr b)=decide (a=b):=by
 by_cases e:a=b
 ·subst e;simp
 ·have h:¬(Sum.inr a:Key)=Sum.inr b:=λq=>e (Sum.inr.inj q);rw[Jd h,Jd e]
theorem zp5 (a:Int)(b:Str):decide ((Sum.inl a:Key)=Sum.inr b)=false:=Jd (λq=>nomatch q)
theorem zqL (a:Str)(b:Int):decide ((Sum.inr a:Key)=Sum.inl b)=false:=Jd (λq=>nomatch q)
noncomputable def zaJ (prog:Program)(w:World):PySem.KeyKind prog w Key where
 is:=zgJ
 hash:=keyH w
 inj:=λv a b ha hb=>by
  rcases zay ha with ⟨i,t,rfl,rfl⟩ | ⟨x,t,rfl,rfl⟩
  ·rcases zay hb with ⟨j,u,rfl,e⟩ | ⟨y,u,rfl,e⟩
   ·injection e with e1 _;rw[e1]
   ·exact nomatch e
  ·rcases zay hb with ⟨j,u,rfl,e⟩ | ⟨y,u,rfl,e⟩
   ·exact nomatch e
   ·injection e with e1 _;rw[e1]
 byValue:=λk v h=>by rcases zay h with ⟨i,t,rfl,rfl⟩ | ⟨x,t,rfl,rfl⟩ <;> rfl
 pyHash:=λhv h=>by
  rcases zay hv with ⟨i,t,rfl,rfl⟩ | ⟨x,t,rfl,rfl⟩
  ·exact wpAny_pyHash_int h
  ·exact wpAny_pyHash_str h
 eqBool:=λhu hv h=>by
  rcases zay hu with ⟨i,t,rfl,rfl⟩ | ⟨x,t,rfl,rfl⟩
  ·rcases zay hv with ⟨j,u,rfl,rfl⟩ | ⟨y,u,rfl,rfl⟩
   ·rw[zqb] at h;exact wpAny_eqBool_int h
   ·rw[zp5] at h;exact SeqAt.EqAt.int_str i t y u _ _ _ _ h
  ·rcases zay hv with ⟨j,u,rfl,rfl⟩ | ⟨y,u,rfl,rfl⟩
   ·rw[zqL] at h;exact SeqAt.EqAt.str_int x t j u _ _ _ _ h
   ·rw[zpV] at h;exact wpAny_eqBool_str h
 «strs»:=λk x t v h=>by
  rcases zay h with ⟨i,u,rfl,e⟩ | ⟨y,u,rfl,e⟩
  ·exact nomatch e
  ·injection e with e1 _
   subst e1;cases v <;> rfl
theorem zjf (prog:Program)(w:World)(i:Int)(t:Tok):(zaJ prog w).is (.inl i) (.int i t)=true:=zlP i t
theorem zi3 (prog:Program)(w:World)(x:Str)(t:Tok):(zaJ prog w).is (.inr x) (.str x t)=true:=zl4 x t
end L2
namespace L2
open PySem PySem.Spec PyProof.Rows
inductive V where
 | non | bl (b:Bool) | int (i:Int) | str (x:Str) | byt (b:Array UInt8) | flt (b:UInt64) | ref (a:Addr) | ty (n:String)
 deriving DecidableEq
def RelV:V->Value->Prop
 | .non,u=>u=Value.none
 | .bl b,u=>u=Value.bool b
 | .int i,u=>∃t,u=Value.int i t
 | .str x,u=>∃t,u=Value.str x t
 | .byt b,u=>∃t,u=Value.bytes b t
 | .flt b,u=>∃t,u=Value.float b t
 | .ref a,u=>u=Value.ref a
 | .ty n,u=>u=Value.type n
abbrev Vals:List V->List Value->Prop:=Paired RelV
abbrev _root_.QN:=List Value
abbrev _root_.QQ:=List V
theorem Vals.length {xs:QQ}{us:QN}(r:Vals xs us):xs.length=us.length:=Paired.length r
theorem Vals.get:∀{xs:QQ} {us:QN} {i:Nat} {x:V},Vals xs us->xs[i]? =some x->∃u,us[i]? =some u/\RelV x u
 | _,_,_,_,.nil,e=>by simp at e
 | _,_,0,_,.cons r _,e=>by simp at e;subst e;exact⟨_,rfl,r⟩
 | _,_,i+1,x,.cons _ t,e=>by obtain⟨u,h1,h2⟩:=Vals.get (i:=i) (x:=x) t (by simpa using e);exact⟨u,by simpa using h1,h2⟩
theorem Vals.append:∀{xs ys:QQ} {us ws:QN},Vals xs us->Vals ys ws->Vals (xs++ys) (us++ws)
 | _,_,_,_,.nil,s=>s
 | _,_,_,_,.cons r t,s=>.cons r (Vals.append t s)
theorem Vals.take:∀{xs:QQ} {us:QN} (n:Nat),Vals xs us->Vals (xs.take n) (us.take n)
 | _,_,0,_=>.nil
 | _,_,_+1,.nil=>.nil
 | _,_,n+1,.cons r t=>.cons r (Vals.take n t)
theorem Vals.drop:∀{xs:QQ} {us:QN} (n:Nat),Vals xs us->Vals (xs.drop n) (us.drop n)
 | _,_,0,r=>r
 | _,_,_+1,.nil=>.nil
 | _,_,n+1,.cons _ t=>Vals.drop n t
def RelO:Option V->Option Value->Prop
 | some v,some u=>RelV v u
 | none,none=>True
 | _,_=>False
def KV {κ:Type}:List (κ ×V)->List (κ ×Value)->Prop:=Paired λ(p:κ ×V) (q:κ ×Value)=>p.1=q.1/\RelV p.2 q.2
noncomputable def kV:Key->V
 | .inl i=>.int i
 | .inr x=>.str x
abbrev _root_.QG:=List (Key ×V)
inductive HO where
 | lst (xs:QQ)
 | tup (xs:QQ)
 | dK (kvs:QG) | dT (kvs:List (List Key ×V))
 | set (S:Int->Bool) (n:Nat)
 | ins (C dx:Addr) (fs:List (Str ×V))
 | own (x:Addr)
 | xd (fs:List (Str ×V))
 | met (f x:Addr)
 | rng (lo hi:Int)
 | frz (o:Obj) (u:HO)
 | tbl (ps:Array Value)
 | ext (φ:Heap->Prop)
abbrev Hp:=Addr->Option HO
noncomputable def upd (H:Hp)(a:Addr)(o:HO):Hp:=λb=>if b=a then some o else H b
theorem zj {H:Hp}{a:Addr}{o:HO}:upd H a o a=some o:=by unfold upd;rw[if_pos rfl]
theorem zl {H:Hp}{a b:Addr}{o:HO}(h:b≠a):upd H a o b=H b:=by unfold upd;rw[if_neg h]
theorem zkx {H:Hp}{a:Addr}{o u:HO}:upd (upd H a o) a u=upd H a u:=by funext b;unfold upd;split <;> rfl
theorem zbz {H:Hp}{a b:Addr}{o u:HO}(h:H a=some o)(h':H b=some u)(d:o≠u):a≠b:=by intro e;subst e;rw[h] at h';exact d (Option.some.inj h')
theorem zo {H:Hp}{a b:Addr}{o:HO}(h:H a=some o)(h':H b=none):a≠b:=by intro e;subst e;rw[h] at h';cases h'
section
variable (P:Program)(w:World)
def zZ (H:Hp)(h:Heap)(a:Addr):HO->Prop
 | .lst xs=>xs.length<=sizeLine/\∃(its:QN) (n:Nat),Vals xs its/\h.get? a=some {cls:=.type "list",data:=.seq its.toArray n}
 | .tup xs=>xs.length<=sizeLine/\∃its:List Value,Vals xs its/\IsTup h a its.toArray
 | .dK kvs=>kvs.length<=sizeLine/\(a==sysModules)=false/\∃vs,KV kvs vs/\h.DictOf (zaJ P w) a vs
 | .dT kvs=>kvs.length<=sizeLine/\(a==sysModules)=false/\∃xs:List (List Key ×Addr ×Value),
   Paired (λ(p:List Key ×V) (q:List Key ×Addr ×Value)=>p.1=q.1/\H q.2.1=some (.tup (p.1.map kV))/\RelV p.2 q.2.2) kvs xs/\
   ∃o es ep,h.get? a=some o/\o.ExactDict/\o.data=.dict es ep/\es.toList=xs.map (entryOfKey (tupleKind (zaJ P w)))/\(xs.map (·.1)).Nodup
 | .set S n=>h.SetOf (intKind P w) a S n
 | .ins C dx fs=>H dx=some (.own a)/\fs.length<=1000/\dx≠a/\h.get? a=some (PySem.W.instObj C dx)/\
   ∃mA,h.Ns1 dx mA/\(∀f,RelO (fs.lookup f) (mA f))/\PySem.Within mA (fs.map (·.1))
 | .own _=>∃o,h.get? a=some o
 | .xd fs=>∃mA,h.Ns1 a mA/\∀f,RelO (fs.lookup f) (mA f)
 | .rng lo hi=>∃t u v,h.get? a=some {cls:=.type "range",data:=.fields #[.int lo t,.int hi u,.int 1 v]}
 | .frz o u=>h.get? a=some o/\zZ H h a u
 | .tbl ps=>h.get? a=some {cls:=.none,data:=.fields ps}
 | .met f x=>h.get? a=some (PySem.W.methodObj (.ref f) (.ref x))
 | .ext φ=>φ h/\(∃o,h.get? a=some o)/\∀h1 h2:Heap,φ h1->(∀o,h1.get? a=some o->h2.get? a=some o)->φ h2
def HOk (H:Hp)(h:Heap):Prop:=∀a o,H a=some o->zZ P w H h a o
end
section
variable {P:Program}{w:World}{H H':Hp}{h h':Heap}{a:Addr}{o:HO}
theorem zZ.lt (x:zZ P w H h a o):a < h.objs.size:=by
 cases o with
 | lst xs=>obtain⟨_,_,_,_,e⟩:=x;exact Heap.lt_size e
 | tup xs=>obtain⟨_,_,_,p⟩:=x;exact p.lt
 | dK kvs=>obtain⟨_,_,_,_,o,_,_,e,_⟩:=x;exact Heap.lt_size e
 | dT kvs=>obtain⟨_,_,_,_,o,_,_,e,_⟩:=x;exact Heap.lt_size e
 | set S n=>obtain⟨o,_,_,_,e,_⟩:=x;exact Heap.lt_size e
 | ins C dx fs=>obtain⟨_,_,_,e,_⟩:=x;exact Heap.lt_size e
 | own y=>obtain⟨_,e⟩:=x;exact Heap.lt_size e
 | xd fs=>obtain⟨_,⟨_,_,_,e,_⟩,_⟩:=x;exact Heap.lt_size e
 | rng lo hi=>obtain⟨_,_,_,e⟩:=x;exact Heap.lt_size e
 | frz ob u=>obtain⟨e,_⟩:=x;exact Heap.lt_size e
 | tbl ps=>exact Heap.lt_size (show h.get? a=some _ from x)
 | met f y=>exact Heap.lt_size (show h.get? a=some _ from x)
 | ext φ=>obtain⟨_,⟨_,e⟩,_⟩:=x;exact Heap.lt_size e
theorem Paired.mapP {α β:Type}{F G:α->β->Prop}:∀{l₁:List α} {l₂:List β},Paired F l₁ l₂->(∀a b,F a b->G a b)->Paired G l₁ l₂
 | _,_,.nil,_=>.nil
 | _,_,.cons r t,f=>.cons (f _ _ r) (Paired.mapP t f)
theorem zZ.stay (x:zZ P w H h a o)(k:∀b u,(b=a\/H b=some (.own a))->h.get? b=some u->h'.get? b=some u)
  (ho:∀b,H b=some (.own a)->H' b=some (.own a)) (ht:∀b xs,H b=some (.tup xs)->H' b=some (.tup xs)):zZ P w H' h' a o:=by
 induction o with
 | lst xs=>obtain⟨z,its,n,r,e⟩:=x;exact⟨z,its,n,r,k _ _ (.inl rfl) e⟩
 | tup xs=>obtain⟨z,its,r,ob,e,c⟩:=x;exact⟨z,its,r,ob,k _ _ (.inl rfl) e,c⟩
 | dK kvs=>obtain⟨z,y,vs,r,ob,es,ep,e,c⟩:=x;exact⟨z,y,vs,r,ob,es,ep,k _ _ (.inl rfl) e,c⟩
 | dT kvs=>obtain⟨z,y,xs,r,ob,es,ep,e,c⟩:=x;exact⟨z,y,xs,Paired.mapP r λp q z=>⟨z.1,ht _ _ z.2.1,z.2.2⟩,ob,es,ep,k _ _ (.inl rfl) e,c⟩
 | set S n=>obtain⟨ob,es,ep,t,e,c⟩:=x;exact⟨ob,es,ep,t,k _ _ (.inl rfl) e,c⟩
 | ins C dx fs=>obtain⟨d,z,ne,e,mA,⟨od,es,ep,e2,c⟩,r⟩:=x;exact⟨ho _ d,z,ne,k _ _ (.inl rfl) e,mA,⟨od,es,ep,k _ _ (.inr d) e2,c⟩,r⟩
 | own y=>obtain⟨ob,e⟩:=x;exact⟨ob,k _ _ (.inl rfl) e⟩
 | xd fs=>obtain⟨mA,⟨od,es,ep,e,c⟩,r⟩:=x;exact⟨mA,⟨od,es,ep,k _ _ (.inl rfl) e,c⟩,r⟩
 | rng lo hi=>obtain⟨t,u,v,e⟩:=x;exact⟨t,u,v,k _ _ (.inl rfl) e⟩
 | frz ob u ih=>obtain⟨e,q⟩:=x;exact⟨k _ _ (.inl rfl) e,ih q⟩
 | tbl ps=>have e:h.get? a=some {cls:=.none,data:=.fields ps}:=x;show h'.get? a=some {cls:=.none,data:=.fields ps};exact k a _ (.inl rfl) e
 | met f y=>have e:h.get? a=some (PySem.W.methodObj (.ref f) (.ref y)):=x;show h'.get? a=some (PySem.W.methodObj (.ref f) (.ref y));exact k a _ (.inl rfl) e
 | ext φ=>obtain⟨p,⟨o,e⟩,st⟩:=x;exact⟨st _ _ p λo q=>k _ _ (.inl rfl) q,⟨o,k _ _ (.inl rfl) e⟩,st⟩
theorem HOk.lt (x:HOk P w H h)(e:H a=some o):a < h.objs.size:=(x a o e).lt
noncomputable abbrev _root_.Jg:=@Nat.lt_of_lt_of_le
noncomputable abbrev _root_.Ji:=@absurd
noncomputable abbrev _root_.Jz:=@Nat.lt_irrefl
theorem HOk.fresh (x:HOk P w H h)(e:h.objs.size<=a):H a=none:=by
 cases q:H a with
 | none=>rfl
 | some u=>exact Ji (Jg (x.lt q) e) (Jz _)
theorem HOk.kept (x:HOk P w H h)(k:∀b u,h.get? b=some u->h'.get? b=some u):HOk P w H h':=λa o e=>
 (x a o e).stay (λb u _ q=>k b u q) (λ_ q=>q) λ_ _ q=>q
theorem HOk.laid (x:HOk P w H h)(k:∀b u,h.get? b=some u->h'.get? b=some u)(hp:h.objs.size<=a)(new:zZ P w (upd H a o) h' a o):HOk P w (upd H a o) h':=λb u e=>by
 have hn:=x.fresh hp;by_cases hb:b=a
 ·subst hb;rw[zj] at e;cases e;exact new
 ·rw[zl hb] at e;exact(x b u e).stay (λc v _ q=>k c v q) (λc q=>by rw[zl (zo q hn)];exact q) λc xs q=>by rw[zl (zo q hn)];exact q
end
def Rd (H:Hp)(a:Addr)(u:HO):Prop:=H a=some u\/∃o,H a=some (.frz o u)
theorem Rd.ok {P:Program}{w:World}{H:Hp}{h:Heap}{a:Addr}{u:HO}(r:Rd H a u)(x:HOk P w H h):zZ P w H h a u:=by
 rcases r with r | ⟨o,r⟩
 ·exact x a u r
 ·obtain⟨_,q⟩:=x a _ r;exact q
def Mut:Option HO->Prop
 | some (.lst _)=>True
 | some (.dK _)=>True
 | some (.dT _)=>True
 | some (.set _ _)=>True
 | some (.ins _ _ _)=>True
 | some (.ext _)=>True
 | _=>False
section
variable {P:Program}{w:World}{H:Hp}{h h':Heap}{x e:Addr}{o':HO}
theorem HOk.write (ok:HOk P w H h)(mu:Mut (H x))(he:e=x\/H e=some (.own x))(k:∀b u,b≠e->h.get? b=some u->h'.get? b=some u)(heo:∃u,h'.get? e=some u)
  (new:zZ P w (upd H x o') h' x o'):HOk P w (upd H x o') h':=λb u q=>by
 have nown:∀c y,H c=some (.own y)->c≠x:=λc y r z=>by subst z;rw[r] at mu;exact mu
 have ntup:∀c xs,H c=some (.tup xs)->c≠x:=λc xs r z=>by subst z;rw[r] at mu;exact mu
 by_cases hb:b=x
 ·subst hb;rw[zj] at q;cases q;exact new
 ·rw[zl hb] at q;by_cases hbe:b=e
  ·have q':H b=some (.own x):=by
    rcases he with z | z
    ·exact Ji (hbe.trans z) hb
    ·rw[hbe];exact z
   rw[q] at q';cases q';obtain⟨v,hv⟩:=heo;exact⟨v,by rw[hbe];exact hv⟩
  ·refine(ok b u q).stay (λc v hc r=>k c v ?_ r) (λc r=>by rw[zl (nown c b r)];exact r) λc xs r=>by rw[zl (ntup c xs r)];exact r
   rcases hc with rfl | hc
   ·exact hbe
   ·rintro rfl;rcases he with z | z
    ·exact nown c b hc z
    ·rw[hc] at z;cases z;exact hb rfl
end
abbrev _root_.QO:=List Addr
structure Un (fs ex:QO)(H H':Hp)(h h':Heap):Prop where
 keep:∀b o,h.get? b=some o->H b=none->b∉fs->b∉ex->h'.get? b=some o
 slot:∀b o,h.get? b=some o->H b=none->b∈fs->b∉ex->∃sl,h'.get? b=some {o with slots:=sl}
 free:∀b o,h.get? b=some o->H b=none->b∉ex->H' b=none
 there:∀b o,h.get? b=some o->b∉ex->∃o',h'.get? b=some o'
 tups:∀b xs,H b=some (.tup xs)->H' b=some (.tup xs)
 frzs:∀b o u,H b=some (.frz o u)->H' b=some (.frz o u)
 tbls:∀b ps,H b=some (.tbl ps)->∃more,H' b=some (.tbl (ps++more))
section
variable {fs fs' ex ex':QO}{H H1 H2:Hp}{h h1 h2 h':Heap}{a x e:Addr}{o:HO}
theorem Un.any (u:Un fs ex H H1 h h1){b:Addr}{ob:Obj}(q:h.get? b=some ob)(n:H b=none)(hx:b∉ex):∃sl,h1.get? b=some {ob with slots:=sl}:=by
 by_cases hb:b∈fs
 ·exact u.slot b ob q n hb hx
 ·exact⟨ob.slots,u.keep b ob q n hb hx⟩
theorem Un.trans (a:Un fs ex H H1 h h1)(b:Un fs ex H1 H2 h1 h2):Un fs ex H H2 h h2 where
 keep:=λc ob q n hc hx=>b.keep c ob (a.keep c ob q n hc hx) (a.free c ob q n hx) hc hx
 slot:=λc ob q n hc hx=>by obtain⟨sl,e1⟩:=a.slot c ob q n hc hx;obtain⟨sl',e2⟩:=b.slot c _ e1 (a.free c ob q n hx) hc hx;exact⟨sl',e2⟩
 free:=λc ob q n hx=>by obtain⟨o',e1⟩:=a.there c ob q hx;exact b.free c o' e1 (a.free c ob q n hx) hx
 there:=λc ob q hx=>by obtain⟨o',e1⟩:=a.there c ob q hx;exact b.there c o' e1 hx
 tups:=λc xs q=>b.tups c xs (a.tups c xs q)
 frzs:=λc ob xs q=>b.frzs c ob xs (a.frzs c ob xs q)
 tbls:=λc ps q=>by obtain⟨m1,e1⟩:=a.tbls c ps q;obtain⟨m2,e2⟩:=b.tbls c _ e1;exact⟨m1++m2,by rw[e2,Array.append_assoc]⟩
theorem Un.kept (k:∀b u,h.get? b=some u->h'.get? b=some u):Un fs ex H H h h':=
 ⟨λb ob q _ _ _=>k b ob q,λb ob q _ _ _=>⟨ob.slots,k b ob q⟩,λ_ _ _ n _=>n,λb ob q _=>⟨ob,k b ob q⟩,λ_ _ q=>q,λ_ _ _ q=>q,λ_ ps q=>⟨#[],by rw[q];simp⟩⟩
theorem Un.refl:Un fs ex H H h h:=Un.kept λ_ _ q=>q
noncomputable abbrev _root_.Jm:=@Nat.ne_of_lt
theorem Un.laid (k:∀b u,h.get? b=some u->h'.get? b=some u)(hp:h.objs.size<=a)(hn:H a=none):Un fs ex H (upd H a o) h h' where
 keep:=λb u q _ _ _=>k b u q
 slot:=λb u q _ _ _=>⟨u.slots,k b u q⟩
 free:=λb u q n _=>by rw[zl (Jm (Jg (Heap.lt_size q) hp))];exact n
 there:=λb u q _=>⟨u,k b u q⟩
 tups:=λb xs q=>by rw[zl (zo q hn)];exact q
 frzs:=λb u xs q=>by rw[zl (zo q hn)];exact q
 tbls:=λb ps q=>⟨#[],by rw[zl (zo q hn),q];simp⟩
theorem Un.write (mu:Mut (H x))(he:e=x\/H e=some (.own x))(k:∀b u,b≠e->h.get? b=some u->h'.get? b=some u)(heo:∃u,h'.get? e=some u):Un fs ex H (upd H x o) h h':=by
 have hx:∀b,H b=none->b≠x:=λb n z=>by subst z;rw[n] at mu;exact mu
 have hb:∀b,H b=none->b≠e:=λb n z=>by
  subst z;rcases he with r | r
  ·exact hx b n r
  ·rw[n] at r;cases r
 have hm:∀b u,H b=some u->¬Mut (some u)->b≠x:=λb u q nm z=>by subst z;rw[q] at mu;exact nm mu
 refine⟨λb u q n _ _=>k b u (hb b n) q,λb u q n _ _=>⟨u.slots,k b u (hb b n) q⟩,λb u q n _=>by rw[zl (hx b n)];exact n,λb u q _=>?_,
  λb xs q=>by rw[zl (hm b _ q λz=>z)];exact q,λb u xs q=>by rw[zl (hm b _ q λz=>z)];exact q,λb ps q=>⟨#[],by rw[zl (hm b _ q λz=>z),q];simp⟩⟩
 by_cases hbe:b=e
 ·subst hbe;exact heo
 ·exact⟨u,k b u hbe q⟩
end
noncomputable def trk (h:Heap)(H:Hp):List Addr:=(List.range h.objs.size).filter λa=>(H a).isSome
noncomputable def hidT (h:Heap)(H:Hp):Heap:=PySem.W.hideAll h (trk h H)
theorem zlX (h:Heap)(H:Hp):(hidT h H).objs.size=h.objs.size:=PySem.W.hideAll_size _ _
noncomputable abbrev _root_.Jv:=@List.mem_filter
theorem zm6 {h:Heap}{H:Hp}{b:Addr}{o:Obj}(e:h.get? b=some o)(n:H b=none):(hidT h H).get? b=some o:=
 PySem.W.hideAll_get _ e λhm=>by have q:(H b).isSome=true:=(Jv.mp hm).2;rw[n] at q;simp at q
theorem zoP {h:Heap}{H:Hp}{b:Addr}{o:Obj}(e:(hidT h H).get? b=some o):h.get? b=some o/\H b=none:=by
 have e':h.get? b=some o:=PySem.W.of_hideAll (trk h H) e;refine⟨e',?_⟩;cases q:H b with
 | none=>rfl
 | some x=>have hm:b∈trk h H:=Jv.mpr ⟨List.mem_range.mpr (Heap.lt_size e'),by simp[q]⟩;have z:(hidT h H).get? b=none:=PySem.W.hideAll_none (trk h H) hm;rw[z] at e;cases e
noncomputable def zot (g h:Heap)(L:Addr):List (Addr ×Obj):=(List.range h.objs.size).filterMap λa=>if a=L\/(g.get? a).isSome=true then none else(h.get? a).map λo=>(a,o)
noncomputable def rest (g h:Heap)(L d:Addr):List (Addr ×Obj):=(zot g h L).filter λp=>decide (p.1≠d)
end L2
namespace L2
open PySem PySem.Spec PyProof.Rows
abbrev _root_.QA:=PySem.W.Frag
abbrev _root_.QB:=Str->Option Value
structure Mod (K:QA)(mg:QB)(base:Heap):Prop where
 kin:K.In base
 glob:base.Ns mainGlobals mg
 blt:∃mb,base.Ns builtinsNs mb/\∀x:Str,x≠ "__name__" ->mb x=bootBuiltins x
 nolimit:base.NoLimit
structure Cx where
 prog:Program
 w:World
 K:QA
 mg:Str->Option Value
 base:Heap
 A:Around
 N:List Str
 s₀:Shared
 H₀:Hp
 env:Env
 outer:List Env
 stack:List Env
 ex:List Addr
 fn:Str->Bool
 calm:Bool
 pn:List (Addr ×Obj)
 xe:Value->Shared->Prop
noncomputable def frs (l:List Env):List Addr:=l.filterMap (·.frame)
noncomputable abbrev Cx.fs (X:Cx):List Addr:=frs X.outer
def Vis (sc:Scope)(x:Str):Prop:=sc.names.lookup x=some .local\/sc.names.lookup x=some .cell\/sc.names.lookup x=some .free
def Loc (sc:Scope)(x:Str):Prop:=sc.names.lookup x=some .local\/sc.names.lookup x=some .cell
def Look (env:Env)(h:Heap)(m:QB)(x:Str)(u:Value):Prop:=
 (env.kindOf x=some .local/\m x=some u)\/((env.kindOf x=some .cell\/env.kindOf x=some .free)/\∃c,env.cells.lookup x=some c/\h.IsCell c (some u))
structure Cx.Ok (X:Cx):Prop where
 mod:Mod X.K X.mg X.base
 kind:X.env.scope.kind=.function
 glob:X.env.globals=mainGlobals
 blt:X.env.builtins=builtinsNs
 above:X.s₀.heap.objs.size<=X.env.locals
 inj:∀x y c,X.env.cells.lookup x=some c->X.env.cells.lookup y=some c->x=y
 has:∀x,(X.env.kindOf x=some .cell\/X.env.kindOf x=some .free)->∃c,X.env.cells.lookup x=some c
 cab:∀x c,X.fn x=true->X.env.cells.lookup x=some c->X.s₀.heap.objs.size<=c
 hd:X.calm=true->X.A.handled=none
 frames:X.A.frames=some X.stack
 stk:X.stack=X.outer\/(X.stack=X.env::X.outer/\X.env.frame=some X.env.locals)
 exf:∀b∈X.ex,b≠X.env.locals/\∀x c,X.env.cells.lookup x=some c->c≠b
 bs:∀b o,X.base.get? b=some o->X.s₀.heap.get? b=some o/\X.H₀ b=none
 bsz:X.base.objs.size<=X.s₀.heap.objs.size
 noex:∀b o,X.base.get? b=some o->b∉X.ex
 exfs:∀b∈X.ex,b∉X.fs
 funs:X.s₀.heap.FunFrames X.base X.outer
 frf:∀b∈X.fs,X.H₀ b=none
abbrev _root_.QE:=List (Addr ×Obj)
structure Inv (X:Cx)(pins:QE)(σ:List (Option V))(H:Hp)(s:Shared):Prop where
 ok:X.Ok
 os:s.os=X.s₀.os
 bare:AllBare s.gens
 base:Un X.fs X.ex X.H₀ H X.s₀.heap s.heap
 loc:∃m,s.heap.Ns X.env.locals m/\∀(i:Nat) (x:Str) (v:V),X.N[i]? =some x->σ[i]? =some (some v)->Vis X.env.scope x->∃u,RelV v u/\Look X.env s.heap m x u
 cell:∀x c,X.env.cells.lookup x=some c->∃v,s.heap.IsCell c v
 free:H X.env.locals=none
 freeC:∀x c,X.env.cells.lookup x=some c->H c=none
 pin:∀p∈X.pn++pins,s.heap.get? p.1=some p.2/\H p.1=none/\p.1≠X.env.locals/\p.1∉X.fs/\∀v,p.2.data≠ .cell v
 hok:HOk X.prog X.w H s.heap
 len:σ.length=X.N.length
section
variable {X:Cx}{pins:QE}{σ:List (Option V)}{H H':Hp}{s:Shared}{h':Heap}
theorem Cx.Ok.nofr (ok:X.Ok){b:Addr}{o:Obj}(e:X.base.get? b=some o):b∉X.fs:=λhb=>by have:=(ok.funs.mem hb).1;rw[e] at this;cases this
theorem Inv.bs (I:Inv X pins σ H s):∀b o,X.base.get? b=some o->s.heap.get? b=some o/\H b=none:=λb o e=>
 ⟨I.base.keep b o (I.ok.bs b o e).1 (I.ok.bs b o e).2 (I.ok.nofr e) (I.ok.noex b o e),I.base.free b o (I.ok.bs b o e).1 (I.ok.bs b o e).2 (I.ok.noex b o e)⟩
theorem Inv.bk (I:Inv X pins σ H s):∀b o,X.base.get? b=some o->s.heap.get? b=some o:=λb o e=>(I.bs b o e).1
theorem Inv.mod (I:Inv X pins σ H s):Mod X.K X.mg X.base:=I.ok.mod
theorem Inv.kIn (I:Inv X pins σ H s):X.K.In s.heap:=I.ok.mod.kin.keeps I.bk
theorem Inv.lt (I:Inv X pins σ H s):X.env.locals < s.heap.objs.size:=let ⟨_,hn,_⟩:=I.loc;hn.lt
noncomputable abbrev _root_.Jn:=@Nat.le_trans
theorem Inv.sz (I:Inv X pins σ H s):X.s₀.heap.objs.size<=s.heap.objs.size:=Jn I.ok.above (Nat.le_of_lt I.lt)
theorem Inv.nofs (I:Inv X pins σ H s){a:Addr}(h:s.heap.objs.size<=a):a∉X.fs:=λhb=>by obtain⟨_,o,ho,_⟩:=I.ok.funs.mem hb;exact Ji (Jg (Heap.lt_size ho) (Jn I.sz h)) (Jz _)
theorem Inv.cne (I:Inv X pins σ H s):∀x c,X.env.cells.lookup x=some c->c≠X.env.locals:=λx c e z=>by obtain⟨v,o,ho,hd⟩:=I.cell x c e;obtain⟨m,⟨o',es,ep,ho',hd',_⟩,_⟩:=I.loc;rw[z,ho'] at ho;cases ho;rw[hd'] at hd;cases hd
noncomputable abbrev _root_.Jl:=@List.mem_cons_of_mem
theorem Inv.funs (I:Inv X pins σ H s):s.heap.FunFrames X.base X.outer:=by
 have all:∀(l:List Env),(∀b∈frs l,b∈X.fs)->X.s₀.heap.FunFrames X.base l->s.heap.FunFrames X.base l:=by
  intro l
  induction l with
  | nil=>intro _ _;trivial
  | cons env r ih=>intro hs hl;obtain⟨hk,⟨L,o,hf,hn,ho,hd⟩,hr⟩:=hl;have hL:L∈X.fs:=hs L (by unfold frs;rw[List.filterMap_cons,hf];exact List.mem_cons_self);obtain⟨sl,e⟩:=I.base.slot L o ho (I.ok.frf L hL) hL λz=>I.ok.exfs L z hL;exact⟨hk,⟨L,_,hf,hn,e,hd⟩,ih (λb hb=>hs b (by unfold frs;rw[List.filterMap_cons,hf];exact Jl _ hb)) hr⟩
 exact all X.outer (λ_ hb=>hb) I.ok.funs
theorem Inv.stack (I:Inv X pins σ H s):s.heap.FunFrames X.base X.stack:=by
 rcases I.ok.stk with e | ⟨e,hf⟩
 ·rw[e];exact I.funs
 ·rw[e];obtain⟨m,hn,_⟩:=I.loc;refine .cons (by rw[I.ok.kind];decide) hf hn ?_ I.funs;exact Heap.get?_none_of_le (Jn I.ok.bsz I.ok.above)
theorem Inv.stkSub (I:Inv X pins σ H s):∀b∈frs X.stack,b∈X.env.locals::X.fs:=λb hb=>by
 rcases I.ok.stk with e | ⟨e,hf⟩
 ·rw[e] at hb;exact Jl _ hb
 ·rw[e] at hb;unfold frs at hb;rw[List.filterMap_cons,hf] at hb;exact hb
theorem Inv.stkFree (I:Inv X pins σ H s):∀b∈frs X.stack,H b=none:=λb hb=>by
 rcases List.mem_cons.mp (I.stkSub b hb) with e | hb
 ·rw[e];exact I.free
 ·obtain⟨_,o,ho,_⟩:=I.ok.funs.mem hb;exact I.base.free b o ho (I.ok.frf b hb) λz=>I.ok.exfs b z hb
theorem Inv.step {g':Array GenState}{t':Nat}{d':Drawn}{ch:QO}(I:Inv X pins σ H s)
  (hch:∀b∈ch,(b∈X.ex\/X.s₀.heap.objs.size<=b)/\b≠X.env.locals/\(∀x c,X.env.cells.lookup x=some c->c≠b)/\∀p∈X.pn++pins,p.1≠b)
  (keep:∀b o,b≠X.env.locals->b∉X.fs->b∉ch->s.heap.get? b=some o->H b=none->h'.get? b=some o)
  (slot:∀b o,b≠X.env.locals->b∈X.fs->b∉ch->s.heap.get? b=some o->H b=none->∃sl,h'.get? b=some {o with slots:=sl}) (free:∀b o,b∉ch->s.heap.get? b=some o->H b=none->H' b=none)
  (there:∀b o,b∉ch->s.heap.get? b=some o->∃o',h'.get? b=some o')
  (tups:∀b xs,H b=some (.tup xs)->H' b=some (.tup xs)) (frzs:∀b o u,H b=some (.frz o u)->H' b=some (.frz o u)) (tbls:∀b ps,H b=some (.tbl ps)->∃more,H' b=some (.tbl (ps++more)))
  (ns:∀m,s.heap.Ns X.env.locals m->h'.Ns X.env.locals m) (hok:HOk X.prog X.w H' h') (hg:AllBare g'):
  Inv X pins σ H' {s with heap:=h',gens:=g',drawn:=d',toks:=t'}:=by
 have neL:∀b o,X.s₀.heap.get? b=some o->b≠X.env.locals:=λb o e=>Jm (Jg (Heap.lt_size e) I.ok.above);have neC:∀b o,X.s₀.heap.get? b=some o->b∉X.ex->b∉ch:=λb o e hx hb=>by
  rcases(hch b hb).1 with z | z
  ·exact hx z
  ·exact Ji (Jg (Heap.lt_size e) z) (Jz _)
 have cellK:∀x c,X.env.cells.lookup x=some c->∀v,s.heap.IsCell c v->h'.IsCell c v:=λx c e v ⟨o,ho,hd⟩=>by
  have nch:c∉ch:=λz=>(hch c z).2.2.1 x c e rfl;by_cases hc:c∈X.fs
  ·obtain⟨sl,q⟩:=slot c o (I.cne x c e) hc nch ho (I.freeC x c e);exact⟨_,q,hd⟩
  ·exact⟨o,keep c o (I.cne x c e) hc nch ho (I.freeC x c e),hd⟩
 refine⟨I.ok,I.os,hg,⟨λb o e n hb hx=>?_,λb o e n hb hx=>?_,λb o e n hx=>?_,λb o e hx=>?_,λb xs e=>tups b xs (I.base.tups b xs e),λb o xs e=>frzs b o xs (I.base.frzs b o xs e),λb ps e=>?_⟩,?_,λx c e=>?_,?_,λx c e=>?_,λp hp=>?_,hok,I.len⟩
 ·exact keep b o (neL b o e) hb (neC b o e hx) (I.base.keep b o e n hb hx) (I.base.free b o e n hx)
 ·obtain⟨sl,e1⟩:=I.base.slot b o e n hb hx;obtain⟨sl',e2⟩:=slot b _ (neL b o e) hb (neC b o e hx) e1 (I.base.free b o e n hx);exact⟨sl',e2⟩
 ·obtain⟨o',e1⟩:=I.base.there b o e hx;exact free b o' (neC b o e hx) e1 (I.base.free b o e n hx)
 ·obtain⟨o',e1⟩:=I.base.there b o e hx;exact there b o' (neC b o e hx) e1
 ·obtain⟨m1,e1⟩:=I.base.tbls b ps e;obtain⟨m2,e2⟩:=tbls b _ e1;exact⟨m1++m2,by rw[e2,Array.append_assoc]⟩
 ·obtain⟨m,hn,hl⟩:=I.loc;refine⟨m,ns m hn,λi x v e1 e2 e3=>?_⟩;obtain⟨u,r,l⟩:=hl i x v e1 e2 e3;refine⟨u,r,?_⟩;rcases l with l | ⟨k,c,e,z⟩
  ·exact .inl l
  ·exact .inr ⟨k,c,e,cellK x c e _ z⟩
 ·obtain⟨v,z⟩:=I.cell x c e;exact⟨v,cellK x c e v z⟩
 ·obtain⟨m,⟨o,_,_,ho,_⟩,_⟩:=I.loc;exact free _ o (λz=>(hch _ z).2.1 rfl) ho I.free
 ·obtain⟨v,o,ho,hd⟩:=I.cell x c e;exact free c o (λz=>(hch c z).2.2.1 x c e rfl) ho (I.freeC x c e)
 ·obtain⟨e,n,ne,nf,d⟩:=I.pin p hp;have nch:p.1∉ch:=λz=>(hch p.1 z).2.2.2 p hp rfl;exact⟨keep p.1 p.2 ne nf nch e n,free p.1 p.2 nch e n,ne,nf,d⟩
theorem Inv.un {t':Nat}(I:Inv X pins σ H s)(u:Un X.fs [] H H' s.heap h')(hok:HOk X.prog X.w H' h'):Inv X pins σ H' {s with heap:=h',toks:=t'}:=by obtain⟨m,⟨o,es,ep,ho,r⟩,_⟩:=id I.loc;obtain⟨sl,hL⟩:=u.any ho I.free (by simp);exact I.step (g':=s.gens) (d':=s.drawn) (ch:=[]) (λ_ z=>nomatch z) (λb o _ hb _ e n=>u.keep b o e n hb (by simp)) (λb o _ hb _ e n=>u.slot b o e n hb (by simp)) (λb o _ e n=>u.free b o e n (by simp)) (λb o _ e=>u.there b o e (by simp)) u.tups u.frzs u.tbls (λm' hm=>by obtain⟨o',es',ep',ho',r'⟩:=hm;rw[ho] at ho';cases ho';exact⟨_,es',ep',hL,r'⟩) hok I.bare
theorem Inv.call {g':Array GenState}{t':Nat}{d':Drawn}{ch:QO}(I:Inv X pins σ H s)(u:Un (frs X.stack) ch H H' s.heap h')(hok:HOk X.prog X.w H' h')(hg:AllBare g')
  (hch:∀b∈ch,(b∈X.ex\/X.s₀.heap.objs.size<=b)/\b≠X.env.locals/\(∀x c,X.env.cells.lookup x=some c->c≠b)/\∀p∈X.pn++pins,p.1≠b):
  Inv X pins σ H' {s with heap:=h',gens:=g',drawn:=d',toks:=t'}:=by
 obtain⟨m,⟨o,es,ep,ho,r⟩,_⟩:=id I.loc;obtain⟨sl,hL⟩:=u.any ho I.free λz=>(hch _ z).2.1 rfl;exact I.step (ch:=ch) hch (λb o hL hb hc e n=>u.keep b o e n (λz=>(List.mem_cons.mp (I.stkSub b z)).elim hL hb) hc) (λb o _ _ hc e n=>u.any e n hc) (λb o hc e n=>u.free b o e n hc) (λb o hc e=>u.there b o e hc) u.tups u.frzs u.tbls (λm' hm=>by obtain⟨o',es',ep',ho',r'⟩:=hm;rw[ho] at ho';cases ho';exact⟨_,es',ep',hL,r'⟩) hok hg
theorem Inv.turned {t':Nat}{it:Addr}(I:Inv X pins σ H s)(k:∀b o,b≠it->s.heap.get? b=some o->h'.get? b=some o)(hn:H it=none)(hL:it≠X.env.locals)
  (h1:it∈X.ex\/X.s₀.heap.objs.size<=it) (h2:∀x c,X.env.cells.lookup x=some c->c≠it) (h3:∀p∈X.pn++pins,p.1≠it):Inv X pins σ H {s with heap:=h',toks:=t'}:=by
 have nit:∀b u,H b=some u->b≠it:=λb u e z=>by rw[z,hn] at e;cases e
 refine I.step (g':=s.gens) (d':=s.drawn) (ch:=[it]) (λb hb=>?_) (λb o _ _ hc e _=>k b o (λz=>hc (by simp[z])) e) (λb o _ _ hc e _=>⟨o.slots,k b o (λz=>hc (by simp[z])) e⟩) (λ_ _ _ _ n=>n)
  (λb o hc e=>⟨o,k b o (λz=>hc (by simp[z])) e⟩) (λ_ _ e=>e) (λ_ _ _ e=>e) (λb ps e=>⟨#[],by rw[e];simp⟩) (λm hm=>?_) (λb u e=>?_) I.bare
 ·have e:b=it:=by simpa using hb
  subst e;exact⟨h1,hL,h2,h3⟩
 ·obtain⟨o,es,ep,ho,r⟩:=hm;exact⟨o,es,ep,k _ o (Ne.symm hL) ho,r⟩
 ·refine(I.hok b u e).stay (λc v hc q=>k c v ?_ q) (λ_ q=>q) λ_ _ q=>q;rcases hc with z | z
  ·rw[z];exact nit b u e
  ·exact nit c _ z
theorem Inv.tok (I:Inv X pins σ H s)(t:Nat):Inv X pins σ H {s with toks:=t}:=I.un (h':=s.heap) (t':=t) Un.refl I.hok
theorem Inv.kept {t':Nat}(I:Inv X pins σ H s)(k:∀b u,s.heap.get? b=some u->h'.get? b=some u):Inv X pins σ H {s with heap:=h',toks:=t'}:=I.un (Un.kept k) (I.hok.kept k)
theorem Inv.laid {a:Addr}{o:HO}{t':Nat}(I:Inv X pins σ H s)(k:∀b u,s.heap.get? b=some u->h'.get? b=some u)(hp:s.heap.objs.size<=a)(new:zZ X.prog X.w (upd H a o) h' a o):
  Inv X pins σ (upd H a o) {s with heap:=h',toks:=t'}:=I.un (Un.laid k hp (I.hok.fresh hp)) (I.hok.laid k hp new)
theorem Inv.write {x e:Addr}{o:HO}{t':Nat}(I:Inv X pins σ H s)(mu:Mut (H x))(he:e=x\/H e=some (.own x))(k:∀b u,b≠e->s.heap.get? b=some u->h'.get? b=some u)(heo:∃u,h'.get? e=some u)
  (new:zZ X.prog X.w (upd H x o) h' x o):Inv X pins σ (upd H x o) {s with heap:=h',toks:=t'}:=I.un (Un.write mu he k heo) (I.hok.write mu he k heo new)
noncomputable abbrev _root_.Jj:=@List.mem_append
noncomputable abbrev _root_.Jk:=@List.mem_append_left
theorem Inv.pins_of {pins':QE}(I:Inv X pins σ H s)(h:∀p∈pins',s.heap.get? p.1=some p.2/\H p.1=none/\p.1≠X.env.locals/\p.1∉X.fs/\∀v,p.2.data≠ .cell v):Inv X pins' σ H s:=
 ⟨I.ok,I.os,I.bare,I.base,I.loc,I.cell,I.free,I.freeC,λp hp=>(Jj.mp hp).elim (λz=>I.pin p (Jk _ z)) (h p),I.hok,I.len⟩
abbrev _root_.QP:=List Str
theorem zgO {N:QP}(hN:N.Nodup){i j:Nat}{x:Str}(a:N[i]? =some x)(b:N[j]? =some x):i=j:=by obtain⟨h1,e1⟩:=List.getElem?_eq_some_iff.mp a;obtain⟨h2,e2⟩:=List.getElem?_eq_some_iff.mp b;exact(List.getElem_inj hN).mp (e1.trans e2.symm)
abbrev _root_.QC:=Value->Shared->Prop
abbrev _root_.QD:=Unit->Shared->Prop
theorem zlx {M:Model}{A:Around}{E:QC}{i:Nat}{x:Str}{v:V}{u:Value}{Q:QD}(I:Inv X pins σ H s)(hN:X.N.Nodup)(hi:X.N[i]? =some x)(hx:Loc X.env.scope x)(r:RelV v u)
  (h:∀s',Inv X pins (σ.set i (some v)) H s'->(∃a,Heap.SameBut a s.heap s'.heap/\(a=X.env.locals\/X.env.cells.lookup x=some a))->Q () s') (hf:X.fn x=true\/X.env.scope.names.lookup x=some .local:=by first | exact .inl rfl | exact .inr rfl | assumption):wpAny M A (storeName X.env x u) Q E s:=by
 obtain⟨m,hn,hl⟩:=id I.loc;have hcls:(X.env.scope.kind==.class || (X.env.scope.kind==.module && X.env.locals !=X.env.globals))=false:=by rw[I.ok.kind];rfl
 have hiσ:i < σ.length:=by rw[I.len];exact(List.getElem?_eq_some_iff.mp hi).1
 have cne:=I.cne;have tracked:∀{a:Addr} {h':Heap},(∃o,s.heap.get? a=some o/\H a=none)->Heap.SameBut a s.heap h'->HOk X.prog X.w H h':=λ{a h'} ha hs b ob e=>by
  obtain⟨_,_,hfree⟩:=ha;refine(I.hok b ob e).stay (λc w' hc q=>(hs.2 c ?_).trans q) (λ_ q=>q) λ_ _ q=>q;rintro rfl;rcases hc with rfl | hc
  ·rw[hfree] at e;cases e
  ·rw[hfree] at hc;cases hc
 rcases hx with hk | hk
 ·refine wpAny_storeName_local hk hn (λh' hn' hs=>?_) hcls;obtain⟨oL,_,_,hoL,_⟩:=id hn;refine h _ ⟨I.ok,I.os,I.bare,⟨λb o e n hb hx=>?_,λb o e n hb hx=>?_,I.base.free,λb o e hx=>?_,I.base.tups,I.base.frzs,I.base.tbls⟩,⟨_,hn',λj y v' e1 e2 e3=>?_⟩,λy c e=>?_,I.free,I.freeC,λp hp=>?_,tracked ⟨oL,hoL,I.free⟩ hs,by simpa using I.len⟩ ⟨_,hs,.inl rfl⟩
  ·exact(hs.2 b (Jm (Jg (Heap.lt_size e) I.ok.above))).trans (I.base.keep b o e n hb hx)
  ·obtain⟨sl,e1⟩:=I.base.slot b o e n hb hx;exact⟨sl,(hs.2 b (Jm (Jg (Heap.lt_size e) I.ok.above))).trans e1⟩
  ·obtain⟨o',e1⟩:=I.base.there b o e hx;exact⟨o',(hs.2 b (Jm (Jg (Heap.lt_size e) I.ok.above))).trans e1⟩
  ·by_cases hj:j=i
   ·subst hj;rw[hi] at e1;cases e1;rw[List.getElem?_set_self hiσ] at e2;cases e2;exact⟨u,r,.inl ⟨hk,by simp⟩⟩
   ·rw[List.getElem?_set_ne (Ne.symm hj)] at e2;obtain⟨u',r',q⟩:=hl j y v' e1 e2 e3;refine⟨u',r',?_⟩;rcases q with ⟨k,e⟩ | ⟨k,c,e,z⟩
    ·refine .inl ⟨k,?_⟩;have:y≠x:=λe=>hj (zgO hN e1 (e ▸ hi));simp[this,e]
    ·exact .inr ⟨k,c,e,z.sameBut hs (cne y c e)⟩
  ·obtain⟨w',z⟩:=I.cell y c e;exact⟨w',z.sameBut hs (cne y c e)⟩
  ·obtain⟨e,n,ne,nf,d⟩:=I.pin p hp;exact⟨(hs.2 p.1 ne).trans e,n,ne,nf,d⟩
 ·have hfn:X.fn x=true:=by
   rcases hf with z | z
   ·exact z
   ·rw[z] at hk;cases hk
  obtain⟨c,hc⟩:=I.ok.has x (.inl hk);obtain⟨w',z⟩:=I.cell x c hc;refine wpAny_storeName_cell I.ok.kind hk hc z (λh' hc' hs=>?_);obtain⟨oc,hoc,hocd⟩:=id z;refine h {s with heap:=h'} ⟨I.ok,I.os,I.bare,⟨λb o e n hb hx=>?_,λb o e n hb hx=>?_,I.base.free,λb o e hx=>?_,I.base.tups,I.base.frzs,I.base.tbls⟩,⟨m,hn.sameBut hs (Ne.symm (cne x c hc)),λj y v' e1 e2 e3=>?_⟩,λy c' e=>?_,I.free,I.freeC,λp hp=>?_,tracked ⟨oc,hoc,I.freeC x c hc⟩ hs,by simpa using I.len⟩ ⟨c,hs,.inr hc⟩
  ·exact(hs.2 b (Jm (Jg (Heap.lt_size e) (I.ok.cab x c hfn hc)))).trans (I.base.keep b o e n hb hx)
  ·obtain⟨sl,e1⟩:=I.base.slot b o e n hb hx;exact⟨sl,(hs.2 b (Jm (Jg (Heap.lt_size e) (I.ok.cab x c hfn hc)))).trans e1⟩
  ·obtain⟨o',e1⟩:=I.base.there b o e hx;exact⟨o',(hs.2 b (Jm (Jg (Heap.lt_size e) (I.ok.cab x c hfn hc)))).trans e1⟩
  ·by_cases hj:j=i
   ·subst hj;rw[hi] at e1;cases e1;rw[List.getElem?_set_self hiσ] at e2;cases e2;exact⟨u,r,.inr ⟨.inl hk,c,hc,hc'⟩⟩
   ·rw[List.getElem?_set_ne (Ne.symm hj)] at e2;obtain⟨u',r',q⟩:=hl j y v' e1 e2 e3;refine⟨u',r',?_⟩;rcases q with q | ⟨k,c',e,z'⟩
    ·exact .inl q
    ·refine .inr ⟨k,c',e,z'.sameBut hs ?_⟩;rintro rfl;exact hj (zgO hN e1 (I.ok.inj _ _ _ e hc ▸ hi))
  ·by_cases hcc:c'=c
   ·subst hcc;exact⟨_,hc'⟩
   ·obtain⟨w2,z2⟩:=I.cell y c' e;exact⟨w2,z2.sameBut hs hcc⟩
  ·obtain⟨e,n,ne,nf,d⟩:=I.pin p hp;refine⟨(hs.2 p.1 ?_).trans e,n,ne,nf,d⟩;intro q;rw[q,hoc] at e;have q':oc=p.2:=Option.some.inj e;exact d w' (by rw[<-q'];exact hocd)
theorem zgP {M:Model}{A:Around}{E:QC}{i:Nat}{x:Str}{v:V}{u:Value}{Q:QD}(I:Inv X pins σ H s)(hN:X.N.Nodup)(hi:X.N[i]? =some x)(hx:Loc X.env.scope x)(r:RelV v u)
  (h:∀s',Inv X pins (σ.set i (some v)) H s'->Q () s') (hf:X.fn x=true\/X.env.scope.names.lookup x=some .local:=by first | exact .inl rfl | exact .inr rfl | assumption):wpAny M A (storeName X.env x u) Q E s:=
 zlx I hN hi hx r (λs' I' _=>h s' I') hf
theorem Inv.call' {s':Shared}{ch:QO}(I:Inv X pins σ H s)(ho:s'.os=s.os)(u:Un (frs X.stack) ch H H' s.heap s'.heap)(hok:HOk X.prog X.w H' s'.heap)(hg:AllBare s'.gens)
  (hch:∀b∈ch,(b∈X.ex\/X.s₀.heap.objs.size<=b)/\b≠X.env.locals/\(∀x c,X.env.cells.lookup x=some c->c≠b)/\∀p∈X.pn++pins,p.1≠b):Inv X pins σ H' s':=by
 obtain⟨h',g',d',t',o'⟩:=s';have e:o'=s.os:=ho;subst e;exact I.call (g':=g') (t':=t') (d':=d') u hok hg hch
end
abbrev XK:=Value->Option Addr->Hp->Prop
abbrev St:=List (Option V)
abbrev VK:=V->Hp->Prop
abbrev TE:=St->Hp->VK->Prop
abbrev TT:=St->Hp->(Bool->Hp->Prop)->Prop
abbrev TA:=St->Hp->(List V->Hp->Prop)->Prop
structure Ends where
 nx:St->Hp->Prop
 rt:VK
 bk:St->Hp->Prop:=λ_ _=>False
 ct:St->Hp->Prop:=λ_ _=>False
abbrev TS:=Ends->St->Hp->Prop
def EP (X:Cx)(pins:QE)(σ:St)(Q:VK)(u:Value)(s':Shared):Prop:=∃v H',Inv X pins σ H' s'/\RelV v u/\Q v H'
def TP (X:Cx)(pins:QE)(σ:St)(Q:Bool->Hp->Prop)(b:Bool)(s':Shared):Prop:=∃H',Inv X pins σ H' s'/\Q b H'
def AP (X:Cx)(pins:QE)(σ:St)(Q:List V->Hp->Prop)(us:QN)(s':Shared):Prop:=∃vs H',Inv X pins σ H' s'/\Vals vs us/\Q vs H'
def SP (X:Cx)(pins:QE)(D:Ends)(f:Flow)(s':Shared):Prop:=
 match f with
 | .next=>∃σ' H',Inv X pins σ' H' s'/\D.nx σ' H'
 | .brk=>∃σ' H',Inv X pins σ' H' s'/\D.bk σ' H'
 | .cont=>∃σ' H',Inv X pins σ' H' s'/\D.ct σ' H'
 | .ret u=>∃v σ' H',Inv X pins σ' H' s'/\RelV v u/\D.rt v H'
def PE (X:Cx)(e:Expr)(t:TE):Prop:=
 ∀(pins:QE) (s:Shared) (σ:St) (H:Hp) (Q:VK),Inv X pins σ H s->t σ H Q->wpAny (model X.prog X.w) X.A (eval e X.env) (EP X pins σ Q) X.xe s
def PT (X:Cx)(e:Expr)(t:TT):Prop:=
 ∀(pins:QE) (s:Shared) (σ:St) (H:Hp) (Q:Bool->Hp->Prop),Inv X pins σ H s->t σ H Q->wpAny (model X.prog X.w) X.A (isTrue e X.env (eval e X.env)) (TP X pins σ Q) X.xe s
def PW (X:Cx)(e:Expr)(t:TT):Prop:=
 ∀(whole:Sem Value) (pins:QE) (s:Shared) (σ:St) (H:Hp) (Q:Bool->Hp->Prop),Inv X pins σ H s->t σ H Q->wpAny (model X.prog X.w) X.A (isTrue e X.env whole) (TP X pins σ Q) X.xe s
theorem PW.pt {X:Cx}{e:Expr}{t:TT}(h:PW X e t):PT X e t:=h _
def PA (X:Cx)(es:List Expr)(t:TA):Prop:=
 ∀(pos:Pos) (pins:QE) (s:Shared) (σ:St) (H:Hp) (Q:List V->Hp->Prop),Inv X pins σ H s->t σ H Q->wpAny (model X.prog X.w) X.A (spliced (backTo pos (starEach es X.env))) (AP X pins σ Q) X.xe s
def PS (X:Cx)(st:Stmt)(t:TS):Prop:=
 ∀(pins:QE) (s:Shared) (σ:St) (H:Hp) (D:Ends),Inv X pins σ H s->t D σ H->wpAny (model X.prog X.w) X.A (exec st X.env) (SP X pins D) X.xe s
def PSs (X:Cx)(st:List Stmt)(t:TS):Prop:=
 ∀(pins:QE) (s:Shared) (σ:St) (H:Hp) (D:Ends),Inv X pins σ H s->t D σ H->wpAny (model X.prog X.w) X.A (execs st X.env) (SP X pins D) X.xe s
theorem thn {α:Type}{t:Sem α}{Q Q':α->Shared->Prop}{M:Model}{A:Around}{E:QC}{s:Shared}(h:wpAny M A t Q E s)(hQ:∀a s,Q a s->Q' a s):wpAny M A t Q' E s:=wpAny_mono h hQ λ_ _ x=>x
end L2
namespace L2
open PySem PySem.Spec PyProof.Rows
section
variable {X:Cx}
theorem bin {a b:Expr}{ta tb:TE}(ha:PE X a ta)(hb:PE X b tb){pins:QE}{s:Shared}{σ:St}{H:Hp}{R:V->V->Hp->Prop}(I:Inv X pins σ H s)(h:ta σ H λx H1=>tb σ H1 λy H2=>R x y H2)
  {α:Type} {Q:α->Shared->Prop} {f:Value->Value->Sem α}
  (hf:∀v u s2 x y H2,Inv X pins σ H2 s2->RelV x v->RelV y u->R x y H2->wpAny (model X.prog X.w) X.A (f v u) Q X.xe s2):
  wpAny (model X.prog X.w) X.A (eval a X.env) (λv s₁=>wpAny (model X.prog X.w) X.A (eval b X.env) (λu s₂=>wpAny (model X.prog X.w) X.A (f v u) Q X.xe s₂) X.xe s₁) X.xe s:=by
 refine thn (ha pins s σ H _ I h) λv s1 ⟨x,H1,I1,r1,q1⟩=>?_;refine thn (hb pins s1 σ H1 _ I1 q1) λu s2 ⟨y,H2,I2,r2,q2⟩=>?_;exact hf v u s2 x y H2 I2 r1 r2 q2
def tVar (i:Nat):TE:=fun σ H Q=>∃v,σ[i]? =some (some v)/\Q v H
def tC (v:V):TE:=λ_ H Q=>Q v H
theorem zqH {i:Nat}{x:Str}{pos:Pos}(hN:X.N[i]? =some x)(hv:Vis X.env.scope x)(hd:(x==("__debug__" :Str))=false:=by decide) (hcd:(x==("__classdict__" :Str))=false:=by decide):PE X (.Name x pos) (tVar i):=by
 intro pins s σ H Q I h;obtain⟨v,e,h⟩:=h;obtain⟨m,hn,hl⟩:=I.loc;obtain⟨u,r,l⟩:=hl i x v hN e hv;have fin:EP X pins σ Q u s:=⟨v,H,I,r,h⟩;rcases l with ⟨hk,hm⟩ | ⟨hk,c,hc,hcell⟩
 ·exact wpAny_Name (wpAny_loadName_local I.ok.kind hk hn hm fin) hd
 ·rcases hk with hk | hk
  ·exact wpAny_Name (wpAny_loadName_cell I.ok.kind hk hc hcell fin) hd
  ·exact wpAny_Name (wpAny_loadName_free I.ok.kind hk hc hcell fin hcd) hd
theorem zg {i j pos}:PE X (.Constant (.int i) j pos) (tC (.int i)):=λ_ _ _ H _ I h=>wpAny_Constant_int ⟨.int i,H,I.tok _,⟨_,rfl⟩,h⟩
theorem zbM {b j pos}:PE X (.Constant (.bool b) j pos) (tC (.bl b)):=λ_ _ _ H _ I h=>Constant_bool ⟨.bl b,H,I,rfl,h⟩
theorem zaC {j pos}:PE X (.Constant .none j pos) (tC .non):=λ_ _ _ H _ I h=>Constant_none ⟨.non,H,I,rfl,h⟩
theorem zdH {x j pos}:PE X (.Constant (.str x) j pos) (tC (.str x)):=λ_ _ _ H _ I h=>Calls.Constant_str ⟨.str x,H,I.tok _,⟨_,rfl⟩,h⟩
def Gl (X:Cx)(x:Str):Prop:=X.env.kindOf x=some .globalImplicit
theorem zb2 {E:QC}{pins:QE}{s:Shared}{σ:St}{H:Hp}{x:Str}{u:Value}{pos:Pos}{Q:QC}(I:Inv X pins σ H s)(hg:Gl X x)(hm:X.mg x=some u)(h:Q u s)
  (hd:(x==("__debug__" :Str))=false:=by decide):wpAny (model X.prog X.w) X.A (eval (.Name x pos) X.env) Q E s:=
 Calls.Name_function_global I.ok.kind hg (Calls.loadGlobal_global (by rw[I.ok.glob];exact I.mod.glob.keeps I.bk) hm h) hd
theorem zcK {E:QC}{pins:QE}{s:Shared}{σ:St}{H:Hp}{x:Str}{u:Value}{pos:Pos}{Q:QC}(I:Inv X pins σ H s)(hg:Gl X x)(hm:X.mg x=none)(hv:bootBuiltins x=some u)(h:Q u s)
  (hn:x≠ "__name__" :=by decide) (hd:(x==("__debug__" :Str))=false:=by decide):wpAny (model X.prog X.w) X.A (eval (.Name x pos) X.env) Q E s:=by
 obtain⟨mb,h1,h2⟩:=I.mod.blt;exact Calls.Name_function_global I.ok.kind hg (Calls.loadGlobal_builtin (by rw[I.ok.glob];exact I.mod.glob.keeps I.bk) hm (by rw[I.ok.blt];exact h1.keeps I.bk) ((h2 x hn).trans hv) h) hd
theorem zw {x:Str}{v:V}{u:Value}{pos:Pos}(hg:Gl X x)(hm:X.mg x=some u)(r:RelV v u)(hd:(x==("__debug__" :Str))=false:=by decide):PE X (.Name x pos) (tC v):=
 λ_ _ _ H _ I h=>zb2 I hg hm ⟨v,H,I,r,h⟩ hd
theorem zaS {x:Str}{v:V}{u:Value}{pos:Pos}(hg:Gl X x)(hm:X.mg x=none)(hv:bootBuiltins x=some u)(r:RelV v u)(hn:x≠ "__name__" :=by decide) (hd:(x==("__debug__" :Str))=false:=by decide):PE X (.Name x pos) (tC v):=
 λ_ _ _ H _ I h=>zcK I hg hm hv ⟨v,H,I,r,h⟩ hn hd
variable {a b:Expr}{ta tb:TE}{pos:Pos}
def PC (X:Cx)(op:CmpOp)(a b:Expr)(t:TE):Prop:=
 ∀(pins:QE) (s:Shared) (σ:St) (H:Hp) (Q:VK),Inv X pins σ H s->t σ H Q->
  wpAny (model X.prog X.w) X.A (eval a X.env) (λv s₁=>wpAny (model X.prog X.w) X.A (eval b X.env) (λu s₂=>wpAny (model X.prog X.w) X.A (compareOp op v u) (EP X pins σ Q) X.xe s₂) X.xe s₁) X.xe s
theorem zmz (b:Expr){op:CmpOp}(h:op≠ .In)(h2:op≠ .NotIn):behindInMarks op b=false:=by
 have e1:(op==CmpOp.In)=false:=by cases op <;> first | rfl | exact Ji rfl h
 have e2:(op==CmpOp.NotIn)=false:=by cases op <;> first | rfl | exact Ji rfl h2
 cases b <;> simp[behindInMarks,e1,e2]
def tB (t:TE):TT:=fun σ H Q=>t σ H λx H1=>∃c,x=.bl c/\Q c H1
theorem zhU {op:CmpOp}{t:TE}(h:PC X op a b t)(h1:behindInMarks op b=false:=by first | exact zmz _ (by decide) (by decide) | rfl):PT X (.Compare a [op] [b] pos) (tB t):=by intro pins s σ H Q I hw;refine wpAny_isTrue_Compare1 (thn (h pins s σ H _ I hw) λv s1 h1=>thn h1 λu s2 h2=>thn h2 λc s3 ⟨x,H1,I1,r1,q1⟩=>?_) h1;obtain⟨d,rfl,q⟩:=q1;cases r1;exact wpAny_truthy_bool ⟨H1,I1,q⟩
theorem zai {e:Expr}{t:TE}(h:PE X e t)(he:∀whole,isTrue e X.env whole=(do let v<-whole;standAt e.pos;holding [v] (truthy v)):=by intro _;rfl):PT X e (tB t):=by intro pins s σ H Q I hw;refine isTrue_plain (thn (h pins s σ H _ I hw) λv s1 ⟨x,H1,I1,r1,q1⟩=>?_) (he _);obtain⟨d,rfl,q⟩:=q1;cases r1;exact wpAny_truthy_bool ⟨H1,I1,q⟩
variable {tA tB':TT}{rest:List Expr}
def tAnd (t u:TT):TT:=fun σ H Q=>t σ H λc H1=>if c=true then u σ H1 Q else Q false H1
def tOr (t u:TT):TT:=fun σ H Q=>t σ H λc H1=>if c=true then Q true H1 else u σ H1 Q
def tNot (t:TT):TT:=fun σ H Q=>t σ H λc H1=>Q (!c) H1
theorem zfO (ha:PT X a tA):PW X (.BoolOp .And [a] pos) tA:=by
 intro wh pins s σ H Q I h;refine isTrue_and (thn (ha pins s σ H Q I h) λc s1 e=>?_);cases c with
 | true=>exact isTrue_and_nil e
 | false=>exact e
theorem zeO (ha:PT X a tA):PW X (.BoolOp .Or [a] pos) tA:=by
 intro wh pins s σ H Q I h;refine isTrue_or (thn (ha pins s σ H Q I h) λc s1 e=>?_);cases c with
 | false=>exact isTrue_or_nil e
 | true=>exact e
theorem zin (ha:PT X a tA)(hb:PW X (.BoolOp .And (b::rest) pos) tB'):PW X (.BoolOp .And (a::b::rest) pos) (tAnd tA tB'):=by
 intro wh pins s σ H Q I h;refine isTrue_and (thn (ha pins s σ H _ I h) λc s1 ⟨H1,I1,q1⟩=>?_);cases c with
 | true=>exact hb wh pins s1 σ H1 Q I1 q1
 | false=>exact⟨H1,I1,q1⟩
theorem zf9 (ha:PT X a tA)(hb:PW X (.BoolOp .Or (b::rest) pos) tB'):PW X (.BoolOp .Or (a::b::rest) pos) (tOr tA tB'):=by
 intro wh pins s σ H Q I h;refine isTrue_or (thn (ha pins s σ H _ I h) λc s1 ⟨H1,I1,q1⟩=>?_);cases c with
 | true=>exact⟨H1,I1,q1⟩
 | false=>exact hb wh pins s1 σ H1 Q I1 q1
theorem zdg (ha:PT X a tA):PT X (.UnaryOp .Not a pos) (tNot tA):=by intro pins s σ H Q I h;exact isTrue_not (ha pins s σ H (λc H1=>Q (!c) H1) I h)
def zrn (ta tb:TE):TE:=fun σ H Q=>ta σ H λx H1=>∃c,x=.bl c/\if c=true then tb σ H1 Q else Q (.bl false) H1
def zrm (ta:TE):TE:=fun σ H Q=>ta σ H λx H1=>∃c,x=.bl c/\Q (.bl (!c)) H1
theorem ze6 {op}{t:TE}(h:PE X a t):PE X (.BoolOp op [a] pos) t:=λpins s σ H Q I hw=>BoolOp_one (h pins s σ H Q I hw)
theorem zdM (ha:PE X a ta)(hb:PE X (.BoolOp .And (b::rest) pos) tb):PE X (.BoolOp .And (a::b::rest) pos) (zrn ta tb):=by
 intro pins s σ H Q I h;refine BoolOp_and (thn (ha pins s σ H _ I h) λv s1 ⟨x,H1,I1,r1,q1⟩=>?_);obtain⟨c,rfl,q1⟩:=q1;cases r1;refine wpAny_truthy_bool ?_;cases c with
 | true=>exact hb pins s1 σ H1 Q I1 q1
 | false=>exact⟨.bl false,H1,I1,rfl,q1⟩
theorem znC (ha:PE X a ta):PE X (.UnaryOp .Not a pos) (zrm ta):=by intro pins s σ H Q I h;refine UnaryOp_ (thn (ha pins s σ H _ I h) λv s1 ⟨x,H1,I1,r1,q1⟩=>?_);obtain⟨c,rfl,q1⟩:=q1;cases r1;exact not_of (wpAny_truthy_bool ⟨.bl (!c),H1,I1,rfl,q1⟩)
def tIf (t:TT)(ta tb:TE):TE:=fun σ H Q=>t σ H λc H1=>if c=true then ta σ H1 Q else tb σ H1 Q
theorem zc3 {c:Expr}(hc:PT X c tA)(ha:PE X a ta)(hb:PE X b tb):PE X (.IfExp c a b pos) (tIf tA ta tb):=by
 intro pins s σ H Q I h;refine wpAny_IfExp (thn (hc pins s σ H _ I h) λd s1 ⟨H1,I1,q1⟩=>?_);cases d with
 | true=>exact ha pins s1 σ H1 Q I1 q1
 | false=>exact hb pins s1 σ H1 Q I1 q1
end
end L2
namespace L2
open PySem PySem.Spec PyProof.Rows
def SqL (K:QA)(H:Hp)(a:Addr)(xs:QQ):Prop:=
 Rd H a (.lst xs)\/
  ∃(o:Obj) (its:Array Value) (n:Nat),K.lookup a=some o/\o.cls=.type "list" /\o.dict=none/\o.data=.seq its n/\its.size<=sizeLine/\Vals xs its.toList
def SqT (K:QA)(H:Hp)(a:Addr)(xs:QQ):Prop:=
 Rd H a (.tup xs)\/
  ∃(o:Obj) (its:Array Value) (n:Nat),K.lookup a=some o/\o.cls=.type "tuple" /\o.data=.seq its n/\its.size<=sizeLine/\Vals xs its.toList
noncomputable def absV:Value->Option V
 | .none=>some .non
 | .bool b=>some (.bl b)
 | .int i _=>some (.int i)
 | .str x _=>some (.str x)
 | .bytes b _=>some (.byt b)
 | .float b _=>some (.flt b)
 | .ref a=>some (.ref a)
 | .type n=>some (.ty n)
 | _=>none
theorem RelV.abs {x:V}{u:Value}(r:RelV x u):absV u=some x:=by
 cases x with
 | non=>cases r;rfl
 | bl _=>cases r;rfl
 | int _=>obtain⟨t,rfl⟩:=r;rfl
 | str _=>obtain⟨t,rfl⟩:=r;rfl
 | byt _=>obtain⟨t,rfl⟩:=r;rfl
 | flt _=>obtain⟨t,rfl⟩:=r;rfl
 | ref _=>cases r;rfl
 | ty _=>cases r;rfl
theorem RelV.inj {x y:V}{u:Value}(r:RelV x u)(q:RelV y u):x=y:=Option.some.inj (r.abs.symm.trans q.abs)
theorem Vals.inj:∀{xs ys:QQ} {us:QN},Vals xs us->Vals ys us->xs=ys
 | _,_,_,.nil,.nil=>rfl
 | _,_,_,.cons r t,.cons r' t'=>by rw[r.inj r',Vals.inj t t']
section
variable {X:Cx}{pins:QE}{σ:St}{H:Hp}{s:Shared}{a:Addr}{xs ys:QQ}
theorem SqL.of {K:QA}(h:H a=some (.lst xs)):SqL K H a xs:=.inl (.inl h)
theorem SqT.of {K:QA}(h:H a=some (.tup xs)):SqT K H a xs:=.inl (.inl h)
theorem Inv.list (I:Inv X pins σ H s)(h:SqL X.K H a xs):∃its:List Value,Vals xs its/\PlainL s.heap a its.toArray/\xs.length<=sizeLine:=by
 rcases h with h | ⟨o,its,n,hk,hc,hd,hs,hz,r⟩
 ·obtain⟨z,its,n,r,e⟩:=h.ok I.hok;exact⟨its,r,⟨_,n,e,rfl,rfl,rfl⟩,z⟩
 ·refine⟨its.toList,r,⟨o,n,I.kIn a o hk,hc,hd,by simpa using hs⟩,?_⟩;have e:=r.length;simp only[Array.length_toList] at e;omega
theorem Inv.tuple (I:Inv X pins σ H s)(h:SqT X.K H a xs):∃its:List Value,Vals xs its/\IsTup s.heap a its.toArray/\xs.length<=sizeLine:=by
 rcases h with h | ⟨o,its,n,hk,hc,hs,hz,r⟩
 ·obtain⟨z,its,r,p⟩:=h.ok I.hok;exact⟨its,r,p,z⟩
 ·refine⟨its.toList,r,⟨o,I.kIn a o hk,hc,n,by simpa using hs⟩,?_⟩;have e:=r.length;simp only[Array.length_toList] at e;omega
theorem Inv.list_inj (I:Inv X pins σ H s)(h:SqL X.K H a xs)(h':SqL X.K H a ys):xs=ys:=by
 obtain⟨its,r,⟨o,n,e,_,_,d⟩,_⟩:=I.list h;obtain⟨its',r',⟨o',n',e',_,_,d'⟩,_⟩:=I.list h';rw[e] at e';cases e';rw[d] at d';injection d' with d1 _
 have:its=its':=by simpa using congrArg Array.toList d1
 subst this;exact r.inj r'
theorem Inv.tuple_inj (I:Inv X pins σ H s)(h:SqT X.K H a xs)(h':SqT X.K H a ys):xs=ys:=by
 obtain⟨its,r,⟨o,e,_,n,d⟩,_⟩:=I.tuple h;obtain⟨its',r',⟨o',e',_,n',d'⟩,_⟩:=I.tuple h';rw[e] at e';cases e';rw[d] at d';injection d' with d1 _
 have:its=its':=by simpa using congrArg Array.toList d1
 subst this;exact r.inj r'
end
noncomputable abbrev Cx.wish (X:Cx)(E:QC):Cx:={X with xe:=E}
noncomputable abbrev Cx.nox (X:Cx):Cx:=X.wish λ_ _=>False
theorem Cx.Ok.wish {X:Cx}(ok:X.Ok)(E:QC):(X.wish E).Ok:=
 ⟨ok.mod,ok.kind,ok.glob,ok.blt,ok.above,ok.inj,ok.has,ok.cab,ok.hd,ok.frames,ok.stk,ok.exf,ok.bs,ok.bsz,ok.noex,ok.exfs,ok.funs,ok.frf⟩
theorem Cx.Ok.unwish {X:Cx}{E:QC}(ok:(X.wish E).Ok):X.Ok:=
 ⟨ok.mod,ok.kind,ok.glob,ok.blt,ok.above,ok.inj,ok.has,ok.cab,ok.hd,ok.frames,ok.stk,ok.exf,ok.bs,ok.bsz,ok.noex,ok.exfs,ok.funs,ok.frf⟩
section
variable {X:Cx}{pins:QE}{σ:St}{H:Hp}{s:Shared}{E:QC}
theorem Inv.wish (I:Inv X pins σ H s)(E:QC):Inv (X.wish E) pins σ H s:=⟨I.ok.wish E,I.os,I.bare,I.base,I.loc,I.cell,I.free,I.freeC,I.pin,I.hok,I.len⟩
theorem Inv.unwish (I:Inv (X.wish E) pins σ H s):Inv X pins σ H s:=⟨I.ok.unwish,I.os,I.bare,I.base,I.loc,I.cell,I.free,I.freeC,I.pin,I.hok,I.len⟩
theorem SP.unwish {D:Ends}{f:Flow}{s':Shared}(h:SP (X.wish E) pins D f s'):SP X pins D f s':=by
 cases f with
 | next=>obtain⟨σ',H',I,q⟩:=h;exact⟨σ',H',I.unwish,q⟩
 | brk=>obtain⟨σ',H',I,q⟩:=h;exact⟨σ',H',I.unwish,q⟩
 | cont=>obtain⟨σ',H',I,q⟩:=h;exact⟨σ',H',I.unwish,q⟩
 | ret u=>obtain⟨v,σ',H',I,r,q⟩:=h;exact⟨v,σ',H',I.unwish,r,q⟩
theorem PSs.nox {st:List Stmt}{t:TS}(h:PSs X.nox st t):PSs X st t:=λpins s σ H D I hw=>
 wpAny_mono (h pins s σ H D (I.wish _) hw) (λ_ _ q=>q.unwish) λ_ _ z=>False.elim z
end
section
variable {X:Cx}{st:Stmt}{rest:List Stmt}{t u:TS}{e:Expr}{te:TE}{pos:Pos}
def zpD:TS:=λD σ H=>D.nx σ H
def tSeq (t u:TS):TS:=λD σ H=>t {D with nx:=u D} σ H
theorem zu:PSs X [] zpD:=λ_ _ σ H _ I h=>wpAny_execs_nil ⟨σ,H,I,h⟩
theorem zb (h1:PS X st t)(h2:PSs X rest u):PSs X (st::rest) (tSeq t u):=by
 intro pins s σ H D I h;refine wpAny_execs_cons (thn (h1 pins s σ H {D with nx:=u D} I h) λf s1 q=>?_);cases f with
 | next=>obtain⟨σ',H',I',q⟩:=q;exact h2 pins s1 σ' H' D I' q
 | ret v=>exact q
 | brk=>exact q
 | cont=>exact q
theorem zd (h1:PS X st t):PSs X [st] t:=by
 intro pins s σ H D I h;refine wpAny_execs_cons (thn (h1 pins s σ H D I h) λf s1 q=>?_);cases f with
 | next=>exact wpAny_execs_nil q
 | ret v=>exact q
 | brk=>exact q
 | cont=>exact q
def zrb:TS:=λD σ H=>D.ct σ H
theorem zi9:PS X (.Continue pos) zrb:=λ_ _ σ H _ I h=>wpAny_Continue ⟨σ,H,I,h⟩
theorem Inv.quiet {pins:QE}{σ:St}{H:Hp}{s:Shared}(I:Inv X pins σ H s):interactive X.env=false:=by simp[interactive,I.ok.kind]
def zrc (te:TE):TS:=λD σ H=>te σ H λ_ H1=>D.nx σ H1
theorem zaU (he:PE X e te)(hs:swapsWith e none pos.line X.env=pure false:=by rfl):PS X (.Expr e pos) (zrc te):=by intro pins s σ H D I h;exact wpAny_Expr_any (thn (he pins s σ H _ I h) λv s1 ⟨x,H1,I1,r1,q1⟩=>⟨σ,H1,I1,q1⟩) I.quiet hs
def tRet (te:TE):TS:=λD σ H=>te σ H D.rt
theorem zm (he:PE X e te):PS X (.Return (some e) pos) (tRet te):=by intro pins s σ H D I h;exact wpAny_Return_some (thn (he pins s σ H _ I h) λv s1 ⟨x,H1,I1,r1,q1⟩=>⟨x,σ,H1,I1,r1,q1⟩)
def tIfS (c:TT)(t u:TS):TS:=λD σ H=>c σ H λb H1=>if b=true then t D σ H1 else u D σ H1
theorem zL {c:Expr}{a b:List Stmt}{tc:TT}(hc:PT X c tc)(ha:PSs X a t)(hb:PSs X b u):PS X (.If c a b pos) (tIfS tc t u):=by
 intro pins s σ H D I h;refine wpAny_If (thn (hc pins s σ H _ I h) λd s1 ⟨H1,I1,q1⟩=>?_);cases d with
 | true=>exact ha pins s1 σ H1 D I1 q1
 | false=>exact hb pins s1 σ H1 D I1 q1
def zmE:TS:=λ_ _ _=>False
theorem zmA:PS X st zmE:=λ_ _ _ _ _ _ h=>h.elim
theorem zlC {sts:List Stmt}:PSs X sts zmE:=λ_ _ _ _ _ _ h=>h.elim
end
abbrev TG:=V->St->Hp->(St->Hp->Prop)->Prop
abbrev TGs:=List V->St->Hp->(St->Hp->Prop)->Prop
def PG (X:Cx)(target:Expr)(t:TG):Prop:=
 ∀(pins:QE) (s:Shared) (σ:St) (H:Hp) (v:V) (u:Value) (Q:St->Hp->Prop),Inv X pins σ H s->RelV v u->t v σ H Q->
  wpAny (model X.prog X.w) X.A (assign target X.env u) (λ_ s'=>∃σ' H',Inv X pins σ' H' s'/\Q σ' H') X.xe s
def PGs (X:Cx)(ts:List Expr)(t:TGs):Prop:=
 ∀(pins:QE) (s:Shared) (σ:St) (H:Hp) (vs:QQ) (us:QN) (Q:St->Hp->Prop),Inv X pins σ H s->Vals vs us->t vs σ H Q->
  wpAny (model X.prog X.w) X.A (assignInOrder ((assignEach ts X.env).map (·.2)) us) (λ_ s'=>∃σ' H',Inv X pins σ' H' s'/\Q σ' H') X.xe s
section
variable {X:Cx}{pos:Pos}
def zfp (i:Nat):TG:=λv σ H Q=>Q (σ.set i (some v)) H
theorem zah {i:Nat}{x:Str}(hN:X.N.Nodup)(hi:X.N[i]? =some x)(hx:Loc X.env.scope x)(hf:X.fn x=true\/X.env.scope.names.lookup x=some .local:=by first | exact .inl rfl | exact .inr rfl | assumption):PG X (.Name x pos) (zfp i):=by intro pins s σ H v u Q I r h;exact wpAny_assign_Name (zgP I hN hi hx r (λs' I'=>⟨_,H,I',h⟩) hf)
def gNil:TGs:=λvs σ H Q=>vs=[]/\Q σ H
def zrD (t:TG)(u:TGs):TGs:=λvs σ H Q=>∃v r,vs=v::r/\t v σ H fun σ' H'=>u r σ' H' Q
theorem zk1:PGs X [] gNil:=by intro pins s σ H vs us Q I r h;obtain⟨e,h⟩:=h;subst e;cases r;exact assignInOrder_nil ⟨σ,H,I,h⟩
theorem zd9 {e:Expr}{es:List Expr}{t:TG}{u:TGs}(h1:PG X e t)(h2:PGs X es u)
  (hs:(assignEach (e::es) X.env).map (·.2)=assign e X.env::(assignEach es X.env).map (·.2):=by rfl):PGs X (e::es) (zrD t u):=by
 intro pins s σ H vs us Q I r h;obtain⟨v,vr,e1,h⟩:=h;subst e1;cases r with
 | cons r rr=>rw[hs];refine assignInOrder_cons (thn (h1 pins s σ H _ _ _ I r h) λ_ s1 ⟨σ1,H1,I1,q1⟩=>?_);exact h2 pins s1 σ1 H1 _ _ Q I1 rr q1
def gTup (K:QA)(n:Nat)(t:TGs):TG:=λv σ H Q=>∃a xs,v=.ref a/\SqT K H a xs/\xs.length=n/\t xs σ H Q
theorem zng {es:List Expr}{k:Nat}{t:TGs}{n:Nat}(hc:X.calm=true)(h:PGs X es t)
  (hn:(assignEach es X.env).length=n:=by rfl) (hst:(assignEach es X.env).findIdx? (·.1)=none:=by rfl):PG X (.Tuple es k pos) (gTup X.K n t):=by
 intro pins s σ H v u Q I r hw;obtain⟨a,xs,e1,hq,hl,hw⟩:=hw;subst e1;cases r;obtain⟨its,rv,ht,hz⟩:=I.tuple hq;refine assign_Tuple_tuple (I.ok.hd hc) ht (by simp[hn,<-hl,rv.length]) hst λh' hx=>?_;have I1:Inv X pins σ H {s with heap:=h'}:=I.kept (t':=s.toks) λb o e=>hx b o (Jm (Heap.lt_size e)) e;exact h pins _ σ H xs _ Q I1 (by simpa using rv) hw
def tAsg (te:TE)(g:TG):TS:=λD σ H=>te σ H λx H1=>g x σ H1 D.nx
theorem zq {i:Nat}{x:Str}{e:Expr}{te:TE}{pos':Pos}(hN:X.N.Nodup)(hi:X.N[i]? =some x)(hx:Loc X.env.scope x)(he:PE X e te)(hs:swapsWith e (some (.Name x pos')) pos.line X.env=pure false:=by rfl)(hf:X.fn x=true\/X.env.scope.names.lookup x=some .local:=by first | exact .inl rfl | exact .inr rfl | assumption):
  PS X (.Assign [.Name x pos'] e pos) (tAsg te (zfp i)):=by
 intro pins s σ H D I h;refine wpAny_Assign_Name (thn (he pins s σ H _ I h) λv s1 ⟨y,H1,I1,r1,q1⟩=>?_) hs;exact zgP I1 hN hi hx r1 (λs2 I2=>⟨_,H1,I2,q1⟩) hf
end
section
variable {X:Cx}{pos:Pos}
def zqu (c:TT)(tb:TS):TS:=λD σ H=>∃W:Nat->St->Hp->Prop,(∃m,W m σ H)/\∀m σ H,W m σ H->
 c σ H λb H1=>if b=true then∃N:St->Hp->Prop,(∀σ' H',N σ' H'->∃m',m' < m/\W m' σ' H')/\tb {D with nx:=N,ct:=N,bk:=D.nx} σ H1 else D.nx σ H1
noncomputable abbrev _root_.Jh:=@Bool.false_ne_true
theorem zc9 {c:Expr}{body:List Stmt}{tc:TT}{tb:TS}(hp:PassesOwn (model X.prog X.w) X.A X.env X.xe)(hc:PT X c tc)(hb:PSs X body tb):PS X (.While c body [] pos) (zqu tc tb):=by
 intro pins s σ H D I h;obtain⟨W,⟨m0,w0⟩,turn⟩:=h;refine wpAny_While (codeAny_whileLoop (λn s'=>∃σ' H',Inv X pins σ' H' s'/\W n σ' H') ?_ m0 ⟨σ,H,I,w0⟩);rintro n s1 ⟨σ1,H1,I1,w1⟩;refine wpAny_passesOwn hp (thn (hc pins s1 σ1 H1 _ I1 (turn n σ1 H1 w1)) λb s2 ⟨H2,I2,q2⟩=>?_);cases b with
 | true=>
  obtain⟨N,hN,q2⟩:=q2;rw[if_pos rfl];refine wpAny_passesOwn hp (thn (hb pins s2 σ1 H2 _ I2 q2) λf s3 q3=>?_);cases f with
  | next=>obtain⟨σ3,H3,I3,n3⟩:=q3;obtain⟨m',hm,w3⟩:=hN σ3 H3 n3;exact⟨m',hm,σ3,H3,I3,w3⟩
  | cont=>obtain⟨σ3,H3,I3,n3⟩:=q3;obtain⟨m',hm,w3⟩:=hN σ3 H3 n3;exact⟨m',hm,σ3,H3,I3,w3⟩
  | brk=>exact q3
  | ret v=>exact q3
 | false=>rw[if_neg Jh];exact wpAny_execs_nil ⟨σ1,H2,I2,q2⟩
end
structure It where
 go:Nat->Hp->Prop
 yld:Nat->Hp->V->Hp->Prop
 stop:Nat->Hp->Prop
def FpOk (X:Cx)(pins:QE)(H:Hp)(b:Addr):Prop:=
 H b=none/\b≠X.env.locals/\b∉X.fs/\(b∈X.ex\/X.s₀.heap.objs.size<=b)/\(∀x c,X.env.cells.lookup x=some c->c≠b)/\∀p∈X.pn++pins,p.1≠b
theorem Inv.fpOk {X:Cx}{pins:QE}{σ:St}{H H':Hp}{s:Shared}{b:Addr}(I:Inv X pins σ H s)(hb:s.heap.objs.size<=b)(hn:H' b=none):FpOk X pins H' b:=by
 refine⟨hn,Nat.ne_of_gt (Jg I.lt hb),I.nofs hb,.inr (Jn I.sz hb),λx c e z=>?_,λp hp z=>?_⟩
 ·obtain⟨v,q⟩:=I.cell x c e;exact Ji (Jg q.lt (by rw[z];exact hb)) (Jz _)
 ·exact Ji (Jg (Heap.lt_size (I.pin p hp).1) (by rw[z];exact hb)) (Jz _)
structure Turn (P:Program)(w:World)(K:QA)(tg:Expr)(J:It)(fp:QO)(it:Addr)(tn:Nat->Heap->Prop):Prop where
 mem:it∈fp
 obj:∀i h,tn i h->∀b∈fp,∃o,h.get? b=some o/\∀v,o.data≠ .cell v
 keep:∀i h h',tn i h->(∀b∈fp,∀o,h.get? b=some o->h'.get? b=some o)->tn i h'
 item:∀(X:Cx),X.prog=P->X.w=w->X.K=K->X.calm=true->∀(i:Nat) (pins:QE) (s:Shared) (σ:St) (H:Hp) (E:QC),Inv X pins σ H s->(∀b∈fp,FpOk X pins H b)->tn i s.heap->J.go i H->
  wpAny (model P w) X.A (pyNext (.ref it)) (λr s1=>∃u,r=some u/\
   wpAny (model P w) X.A (letOwnedTupleGo tg (.ref it) u) (λ_ s2=>∃x H',Inv X pins σ H' s2/\RelV x u/\J.yld i H x H'/\tn (i+1) s2.heap/\∀b∈fp,H' b=none) E s1) E s
 done:∀(X:Cx),X.prog=P->X.w=w->X.K=K->X.calm=true->∀(i:Nat) (pins:QE) (s:Shared) (σ:St) (H:Hp) (E:QC),Inv X pins σ H s->(∀b∈fp,FpOk X pins H b)->tn i s.heap->J.stop i H->
  wpAny (model P w) X.A (pyNext (.ref it)) (λr s1=>r=none/\Inv X pins σ H s1) E s
 self:∀(A:Around) (i:Nat) (s:Shared) (Q:QC) (E:QC),tn i s.heap->Q (.ref it) s->wpAny (model P w) A (pyIter (.ref it)) Q E s
abbrev TI:=St->Hp->(It->Hp->Prop)->Prop
def PIE (X:Cx)(pins:QE)(σ:St)(tg:Expr)(R:It->Hp->Prop)(itv:Value)(s2:Shared):Prop:=
 ∃(it:Addr) (fp:QO) (tn:Nat->Heap->Prop) (J:It) (H':Hp),itv=.ref it/\Inv X pins σ H' s2/\Turn X.prog X.w X.K tg J fp it tn/\tn 0 s2.heap/\(∀b∈fp,FpOk X pins H' b)/\R J H'
def PI (X:Cx)(tg iter:Expr)(wi:TI):Prop:=
 ∀(pins:QE) (s:Shared) (σ:St) (H:Hp) (R:It->Hp->Prop),Inv X pins σ H s->wi σ H R->
  wpAny (model X.prog X.w) X.A (eval iter X.env) (λv s1=>wpAny (model X.prog X.w) X.A (pyIter v) (PIE X pins σ tg R) X.xe s1) X.xe s
noncomputable abbrev _root_.Ja:=@wpAny_bind
theorem zhh {M:Model}{A:Around}{E:QC}{s:Shared}{tg:Expr}{it:Addr}{u:Value}{o:Obj}{n:String}{vs:Array Value}{Q:QD}(ho:s.heap.get? it=some o)(hc:o.cls=.type n)(hd:o.data=.fields vs)
  (hn:["enumerate","zip","dict_itemiterator","dict_reverseitemiterator","odict_iterator","itertools.zip_longest","itertools.pairwise"].contains n=false) (hQ:Q () s):wpAny M A (letOwnedTupleGo tg (.ref it) u) Q E s:=by
 unfold letOwnedTupleGo;cases tg <;> first
  | exact wpAny_pure hQ
  | (cases u <;> first
    | exact wpAny_pure hQ
    | (refine Ja (wpAny_load ho ?_)
       rw[hc,hd];show wpAny M A (if (["enumerate","zip","dict_itemiterator","dict_reverseitemiterator","odict_iterator","itertools.zip_longest","itertools.pairwise"].contains n && vs[0]? ==some (rawInt _))=true then _ else _) Q E s;rw[if_neg (by intro h;rw[hn,Bool.false_and] at h;cases h)];exact wpAny_pure hQ))
noncomputable def Itl (K:QA)(a:Addr):It:=
 ⟨λi H=>∃xs x,SqL K H a xs/\xs[i]? =some x,λi H x H'=>H'=H/\∀xs,SqL K H a xs->xs[i]? =some x,λi H=>∃xs,SqL K H a xs/\xs.length<=i⟩
noncomputable def Itt (K:QA)(a:Addr):It:=
 ⟨λi H=>∃xs x,SqT K H a xs/\xs[i]? =some x,λi H x H'=>H'=H/\∀xs,SqT K H a xs->xs[i]? =some x,λi H=>∃xs,SqT K H a xs/\xs.length<=i⟩
noncomputable def Itr (lo:Int)(n:Nat):It:=⟨λi _=>i < n,λi H x H'=>H'=H/\x=.int (lo+i),λi _=>n<=i⟩
theorem zlZ {P:Program}{w:World}{K:QA}{tg:Expr}(a it:Addr):Turn P w K tg (Itl K a) [it] it (λi h=>h.IsListIter it a i) where
 mem:=by simp
 obj:=λi h st b hb=>by
  have e:b=it:=by simpa using hb
  subst e;obtain⟨o,e,c,d⟩:=st;exact⟨o,e,λv z=>by rw[d] at z;cases z⟩
 keep:=λi h h' st k=>st.at λo e=>k it (by simp) o e
 item:=by intro X hP hw hK hc i pins s σ H E I hf st hg;subst hP hw hK;obtain⟨xs,x,hq,hx⟩:=hg;obtain⟨its,rv,p,hz⟩:=I.list hq;obtain⟨u,hu,ru⟩:=rv.get hx;obtain⟨f0,f1,f2,f3,f4,f5⟩:=hf it (by simp);refine wpAny_pyNext_list_item st p.isList (x:=u) (by simpa using hu) λh' st' sb=>?_;have I1:Inv X pins σ H {s with heap:=h'}:=I.turned (t':=s.toks) (λb o hb e=>(sb.2 b hb).trans e) f0 f1 f3 f4 f5;obtain⟨o,e,c,d⟩:=id st';exact⟨u,rfl,zhh (s:={s with heap:=h'}) e c d (by decide) ⟨x,H,I1,ru,⟨rfl,λys hy=>by rw[I.list_inj hy hq];exact hx⟩,st',λb hb=>(hf b hb).1⟩⟩
 done:=by intro X hP hw hK hc i pins s σ H E I hf st hg;subst hP hw hK;obtain⟨xs,hq,hx⟩:=hg;obtain⟨its,rv,p,hz⟩:=I.list hq;obtain⟨f0,f1,f2,f3,f4,f5⟩:=hf it (by simp);have hl:=rv.length;exact wpAny_pyNext_list_end (I.ok.hd hc) st p.isList (by simp;omega) λh' eb=>⟨rfl,I.turned (t':=s.toks) (λb o hb e=>eb b o hb e) f0 f1 f3 f4 f5⟩
 self:=λ_ _ _ _ _ st h=>wpAny_pyIter_listiter st h
theorem zka {P:Program}{w:World}{K:QA}{tg:Expr}(a it:Addr):Turn P w K tg (Itt K a) [it] it (λi h=>h.IsTupleIter it a i) where
 mem:=by simp
 obj:=λi h st b hb=>by
  have e:b=it:=by simpa using hb
  subst e;obtain⟨o,e,c,d⟩:=st;exact⟨o,e,λv z=>by rw[d] at z;cases z⟩
 keep:=λi h h' st k=>st.at λo e=>k it (by simp) o e
 item:=by intro X hP hw hK hc i pins s σ H E I hf st hg;subst hP hw hK;obtain⟨xs,x,hq,hx⟩:=hg;obtain⟨its,rv,p,hz⟩:=I.tuple hq;obtain⟨u,hu,ru⟩:=rv.get hx;obtain⟨f0,f1,f2,f3,f4,f5⟩:=hf it (by simp);refine wpAny_pyNext_tuple_item st (show s.heap.IsTuple a its.toArray from p) (x:=u) (by simpa using hu) λh' st' sb=>?_;have I1:Inv X pins σ H {s with heap:=h'}:=I.turned (t':=s.toks) (λb o hb e=>(sb.2 b hb).trans e) f0 f1 f3 f4 f5;obtain⟨o,e,c,d⟩:=id st';exact⟨u,rfl,zhh (s:={s with heap:=h'}) e c d (by decide) ⟨x,H,I1,ru,⟨rfl,λys hy=>by rw[I.tuple_inj hy hq];exact hx⟩,st',λb hb=>(hf b hb).1⟩⟩
 done:=by intro X hP hw hK hc i pins s σ H E I hf st hg;subst hP hw hK;obtain⟨xs,hq,hx⟩:=hg;obtain⟨its,rv,p,hz⟩:=I.tuple hq;obtain⟨f0,f1,f2,f3,f4,f5⟩:=hf it (by simp);have hl:=rv.length;exact wpAny_pyNext_tuple_end (I.ok.hd hc) st (show s.heap.IsTuple a its.toArray from p) (by simp;omega) λh' eb=>⟨rfl,I.turned (t':=s.toks) (λb o hb e=>eb b o hb e) f0 f1 f3 f4 f5⟩
 self:=λ_ _ _ _ _ st h=>wpAny_pyIter_tupleiter st h
theorem zj7 {P:Program}{w:World}{K:QA}{tg:Expr}(it:Addr)(lo:Int)(n:Nat):Turn P w K tg (Itr lo n) [it] it (λi h=>IsRangeIter h it (lo+(i:Nat) * 1) ((n:Int) - (i:Nat)) 1) where
 mem:=by simp
 obj:=λi h st b hb=>by
  have e:b=it:=by simpa using hb
  subst e;exact⟨_,st,λv z=>by have z':Data.fields _=Data.cell v:=z;cases z'⟩
 keep:=λi h h' st k=>k it (by simp) _ st
 item:=by intro X hP hw hK hc i pins s σ H E I hf st hg;subst hP hw hK;obtain⟨f0,f1,f2,f3,f4,f5⟩:=hf it (by simp);have W:=Walks.range (prog:=X.prog) (w:=X.w) (I.ok.hd hc) it lo 1 n;refine W.item i s _ _ hg st λv h' tk hv st' kk=>?_;obtain⟨t,rfl⟩:=hv;have I1:Inv X pins σ H {s with heap:=h',toks:=tk}:=I.turned (λb o hb e=>kk b o (by simpa using hb) e) f0 f1 f3 f4 f5;refine⟨_,rfl,zhh (s:={s with heap:=h',toks:=tk}) (n:= "range_iterator") st' rfl rfl (by decide) ⟨.int (lo+i),H,I1,⟨t,?_⟩,⟨rfl,rfl⟩,st',λb hb=>(hf b hb).1⟩⟩;rw[Int.mul_one]
 done:=by intro X hP hw hK hc i pins s σ H E I hf st hg;subst hP hw hK;obtain⟨f0,f1,f2,f3,f4,f5⟩:=hf it (by simp);exact wpAny_pyNext_range_end (I.ok.hd hc) st (by have:n<=i:=hg;omega) λh' eb=>⟨rfl,I.turned (t':=s.toks) (λb o hb e=>eb b o hb e) f0 f1 f3 f4 f5⟩
 self:=λ_ _ _ _ _ st h=>wpAny_pyIter_rangeiter st h
end L2
namespace L2
open PySem PySem.Spec PyProof.Rows
section
variable {X:Cx}{tg:Expr}
def zrw (K:QA)(tl:TE):TI:=fun σ H R=>tl σ H λx H1=>∃a,x=.ref a/\(∃xs,SqL K H1 a xs)/\R (Itl K a) H1
def iTup (K:QA)(tl:TE):TI:=fun σ H R=>tl σ H λx H1=>∃a,x=.ref a/\(∃xs,SqT K H1 a xs)/\R (Itt K a) H1
noncomputable abbrev _root_.Jb:=@Nat.le_refl
theorem zbG {l:Expr}{tl:TE}(hl:PE X l tl):PI X tg l (zrw X.K tl):=by
 intro pins s σ H R I h;refine thn (hl pins s σ H _ I h) λv s1 ⟨x,H1,I1,r1,q1⟩=>?_;obtain⟨a,e,⟨xs,hq⟩,q⟩:=q1;subst e;cases r1;obtain⟨its,rv,p,hz⟩:=I1.list hq;refine wpAny_pyIter_list p.isList ?_;refine⟨s1.heap.objs.size,[s1.heap.objs.size],_,_,H1,rfl,I1.kept (t':=s1.toks) λb o e=>Heap.get?_push_of_some _ e,zlZ a _,⟨_,Heap.get?_push_size _ rfl,rfl,rfl⟩,λb hb=>?_,q⟩;have e:b=s1.heap.objs.size:=by simpa using hb
 subst e;exact I1.fpOk (Jb _) (I1.hok.fresh (Jb _))
theorem znT {l:Expr}{tl:TE}(hl:PE X l tl):PI X tg l (iTup X.K tl):=by
 intro pins s σ H R I h;refine thn (hl pins s σ H _ I h) λv s1 ⟨x,H1,I1,r1,q1⟩=>?_;obtain⟨a,e,⟨xs,hq⟩,q⟩:=q1;subst e;cases r1;obtain⟨its,rv,p,hz⟩:=I1.tuple hq;refine wpAny_pyIter_tuple (show s1.heap.IsTuple a its.toArray from p) ?_;refine⟨s1.heap.objs.size,[s1.heap.objs.size],_,_,H1,rfl,I1.kept (t':=s1.toks) λb o e=>Heap.get?_push_of_some _ e,zka a _,⟨_,Heap.get?_push_size _ rfl,rfl,rfl⟩,λb hb=>?_,q⟩;have e:b=s1.heap.objs.size:=by simpa using hb
 subst e;exact I1.fpOk (Jb _) (I1.hok.fresh (Jb _))
theorem zja {pins:QE}{σ:St}{H:Hp}{s:Shared}{R:It->Hp->Prop}{E:QC}{lo hi:Int}{t u v:Tok}{tk:Nat}(I:Inv X pins σ H s)(h1: -(2 ^ 62)<=lo)(h2:lo < 2 ^ 62)(h3: -(2 ^ 62)<=hi)(h4:hi < 2 ^ 62)
  (q:R (Itr lo (hi - lo).toNat) H):wpAny (model X.prog X.w) X.A (pyIter (.ref s.heap.objs.size)) (PIE X pins σ tg R) E {s with heap:=s.heap.push {cls:=.type "range",data:=.fields #[.int lo t,.int hi u,.int 1 v]},toks:=tk}:=by
 refine wpAny_pyIter_range (IsRange.new ..) (small_one h1 h2 h3 h4) ?_;have I1:Inv X pins σ H {s with heap:=s.heap.push {cls:=.type "range",data:=.fields #[.int lo t,.int hi u,.int 1 v]},toks:=tk}:=I.kept λb o e=>Heap.get?_push_of_some _ e;refine⟨(s.heap.push {cls:=.type "range",data:=.fields #[.int lo t,.int hi u,.int 1 v]}).objs.size,[(s.heap.push {cls:=.type "range",data:=.fields #[.int lo t,.int hi u,.int 1 v]}).objs.size],_,_,H,rfl,
  I1.kept (t':=tk) λb o e=>Heap.get?_push_of_some _ e,zj7 _ lo (hi - lo).toNat,?_,λb hb=>?_,q⟩
 ·have e1:lo+((0:Nat):Int) * 1=lo:=by simp
  have e2:(((hi - lo).toNat:Nat):Int) - ((0:Nat):Int)=Builtin.Range.rangeSize lo hi 1:=by rw[rangeSize_one];split <;> omega
  show IsRangeIter _ _ (lo+((0:Nat):Int) * 1) ((((hi - lo).toNat:Nat):Int) - ((0:Nat):Int)) 1;rw[e1,e2];exact Heap.get?_push_size _ rfl
 ·have e:b=(s.heap.push {cls:=.type "range",data:=.fields #[.int lo t,.int hi u,.int 1 v]}).objs.size:=by simpa using hb
  subst e;exact I1.fpOk (Jb _) (I1.hok.fresh (Jb _))
def zrx (ta:TA):TI:=fun σ H R=>ta σ H λvs H1=>∃j:Int,vs=[.int j]/\ -(2 ^ 62)<=j/\j < 2 ^ 62/\R (Itr 0 j.toNat) H1
def zrg (ta:TA):TI:=fun σ H R=>ta σ H λvs H1=>∃i j:Int,vs=[.int i,.int j]/\(-(2 ^ 62)<=i/\i < 2 ^ 62/\ -(2 ^ 62)<=j/\j < 2 ^ 62)/\R (Itr i (j - i).toNat) H1
theorem zdo {a:Expr}{ta:TA}{p pos:Pos}(hg:Gl X "range") (hm:X.mg "range" =none) (ha:PA X [a] ta) (hs:starEach [a] X.env=[(false,eval a X.env)]:=by rfl):PI X tg (.Call (.Name "range" p) [a] [] pos) (zrx ta):=by
 intro pins s σ H R I h;refine Call_ (zcK I hg hm boot_range (PyProof.Rows.callWith_type1 (thn (ha pos pins s σ H _ I h) λus s1 ⟨vs,H1,I1,r1,q1⟩=>?_) hs rfl));obtain⟨j,e,q1,q2,q⟩:=q1;subst e;cases r1 with
 | cons r rr=>cases rr;obtain⟨t,rfl⟩:=r;exact call_range_1 (zja I1 (by omega) (by omega) q1 q2 (by simpa using q))
theorem zmd {a b:Expr}{ta:TA}{p pos:Pos}(hg:Gl X "range") (hm:X.mg "range" =none) (ha:PA X [a,b] ta) (hs:starEach [a,b] X.env=[(false,eval a X.env),(false,eval b X.env)]:=by rfl) (hs2:starEach [b] X.env=[(false,eval b X.env)]:=by rfl):
  PI X tg (.Call (.Name "range" p) [a,b] [] pos) (zrg ta):=by
 intro pins s σ H R I h;refine Call_ (zcK I hg hm boot_range (PyProof.Rows.callWith_type1 (thn (ha pos pins s σ H _ I h) λus s1 ⟨vs,H1,I1,r1,q1⟩=>?_) (by rw[hs,hs2]) (by rw[hs2];rfl)));obtain⟨i,j,e,⟨q1,q2,q3,q4⟩,q⟩:=q1;subst e;cases r1 with
 | cons r rr=>
  cases rr with
  | cons r' rr=>cases rr;obtain⟨t,rfl⟩:=r;obtain⟨t',rfl⟩:=r';exact call_range_2 (zja I1 q1 q2 q3 q4 q)
def tFor (wi:TI)(g:TG)(tb:TS):TS:=λD σ H=>wi σ H λJ H1=>∃W:Nat->Nat->St->Hp->Prop,(∃m,W 0 m σ H1)/\∀i m σ H,W i m σ H->
 (J.stop i H/\D.nx σ H)\/(J.go i H/\∃N:St->Hp->Prop,(∀σ' H',N σ' H'->∃m',m' < m/\W (i+1) m' σ' H')/\∀x H',J.yld i H x H'->g x σ H' fun σ2 H2=>tb {D with nx:=N,ct:=N,bk:=D.nx} σ2 H2)
noncomputable def zf7 (fp:QO)(h:Heap):List (Addr ×Obj):=fp.filterMap λb=>(h.get? b).map λo=>(b,o)
theorem zcC {fp:QO}{h:Heap}{b:Addr}{o:Obj}(hb:b∈fp)(e:h.get? b=some o):(b,o)∈zf7 fp h:=List.mem_filterMap.mpr ⟨b,hb,by rw[e];rfl⟩
theorem zlY {fp:QO}{h:Heap}{p:Addr ×Obj}(hp:p∈zf7 fp h):p.1∈fp/\h.get? p.1=some p.2:=by
 obtain⟨b,hb,e⟩:=List.mem_filterMap.mp hp;cases q:h.get? b with
 | none=>rw[q] at e;cases e
 | some o=>rw[q] at e;have e':(b,o)=p:=Option.some.inj e;subst e';exact⟨hb,q⟩
noncomputable abbrev _root_.Jf:=@List.mem_append_right
theorem Inv.pinned {pins:QE}{σ:St}{H:Hp}{s:Shared}{fp:QO}(I:Inv X pins σ H s)(hf:∀b∈fp,FpOk X pins H b)(ho:∀b∈fp,∃o,s.heap.get? b=some o/\∀v,o.data≠ .cell v):Inv X (pins++zf7 fp s.heap) σ H s:=
 I.pins_of λp hp=>(Jj.mp hp).elim (λz=>I.pin p (Jf _ z)) λz=>by obtain⟨hb,e⟩:=zlY z;obtain⟨f0,f1,f2,_⟩:=hf p.1 hb;obtain⟨o,e',d⟩:=ho p.1 hb;rw[e] at e';cases e';exact⟨e,f0,f1,f2,d⟩
theorem Inv.unpinned {pins pl:QE}{σ:St}{H:Hp}{s:Shared}(I:Inv X (pins++pl) σ H s):Inv X pins σ H s:=I.pins_of λp hp=>I.pin p (Jf _ (Jk _ hp))
theorem zaH {iter:Expr}{body:List Stmt}{wi:TI}{g:TG}{tb:TS}{pos:Pos}(hp:PassesOwn (model X.prog X.w) X.A X.env X.xe)(hc:X.calm=true)(hi:PI X tg iter wi)(hg:PG X tg g)(hb:PSs X body tb)
  (hs:∀x,foldedSetIterable iter X.env x=pure x:=by intro _;rfl):PS X (.For tg iter body [] pos) (tFor wi g tb):=by
 intro pins s σ H D I h;refine wpAny_For (thn (hi pins s σ H _ I h) λv s1 h1=>thn h1 λitv s2 h2=>?_) hs;obtain⟨it,fp,tn,J,H2,e,I2,T,st2,f2,W,⟨m0,w0⟩,turn⟩:=h2;subst e
 have stat:∀{H':Hp},(∀b∈fp,H' b=none)->∀b∈fp,FpOk X pins H' b:=λhn b hb=>⟨hn b hb,(f2 b hb).2⟩;refine codeAny_forLoop_any (λn s'=>∃i σ' H',Inv X pins σ' H' s'/\tn i s'.heap/\(∀b∈fp,H' b=none)/\W i n σ' H') ?_ m0 ⟨0,σ,H2,I2,st2,λb hb=>(f2 b hb).1,w0⟩;rintro n s3 ⟨i,σ3,H3,I3,st3,fr3,w3⟩;rcases turn i n σ3 H3 w3 with ⟨stop,qn⟩ | ⟨go,N,hN,step⟩
 ·refine wpAny_passesOwn hp (thn (T.done X rfl rfl rfl hc i pins s3 σ3 H3 X.xe I3 (stat fr3) st3 stop) λr s4 ⟨hr,I4⟩=>?_);subst hr;exact wpAny_execs_nil ⟨σ3,H3,I4,qn⟩
 ·refine wpAny_passesOwn hp (thn (T.item X rfl rfl rfl hc i pins s3 σ3 H3 X.xe I3 (stat fr3) st3 go) λr s4 ⟨u,hr,h4⟩=>?_);subst hr;refine wpAny_passesOwn hp (thn h4 λ_ s5 ⟨x,H5,I5,r5,y5,st5,fr5⟩=>?_);have I5':=I5.pinned (stat fr5) (T.obj _ _ st5);refine wpAny_passesOwn hp (thn (hg _ s5 σ3 H5 x u _ I5' r5 (step x H5 y5)) λ_ s6 ⟨σ6,H6,I6,q6⟩=>?_);refine wpAny_passesOwn hp (thn (hb _ s6 σ6 H6 _ I6 q6) λf s7 q7=>?_);have again:∀{σ7:St} {H7:Hp},Inv X (pins++zf7 fp s5.heap) σ7 H7 s7->N σ7 H7->∃m,m < n/\∃i σ' H',Inv X pins σ' H' s7/\tn i s7.heap/\(∀b∈fp,H' b=none)/\W i m σ' H':=λ{σ7 H7} I7 n7=>by obtain⟨m',hm,w7⟩:=hN σ7 H7 n7;refine⟨m',hm,i+1,σ7,H7,I7.unpinned,T.keep _ _ _ st5 λb hb o e=>(I7.pin (b,o) (Jf _ (Jf _ (zcC hb e)))).1,λb hb=>?_,w7⟩;obtain⟨o,e,d⟩:=T.obj _ _ st5 b hb;exact(I7.pin (b,o) (Jf _ (Jf _ (zcC hb e)))).2.1
  cases f with
  | next=>obtain⟨σ7,H7,I7,n7⟩:=q7;exact again I7 n7
  | cont=>obtain⟨σ7,H7,I7,n7⟩:=q7;exact again I7 n7
  | brk=>obtain⟨σ7,H7,I7,q7⟩:=q7;exact⟨σ7,H7,I7.unpinned,q7⟩
  | ret v=>obtain⟨x7,σ7,H7,I7,r7,q7⟩:=q7;exact⟨x7,σ7,H7,I7.unpinned,r7,q7⟩
end
theorem zc4 {K:QA}{a:Addr}{xs:QQ}{g:TG}{tb:TS}{D:Ends}{σ:St}{H:Hp}(Pv:Nat->St->Hp->Prop)(h0:Pv 0 σ H)(hl:∀i σ H,i<=xs.length->Pv i σ H->SqL K H a xs)
  (hs:∀i x σ H,xs[i]? =some x->Pv i σ H->g x σ H fun σ2 H2=>tb {D with nx:=Pv (i+1),ct:=Pv (i+1),bk:=D.nx} σ2 H2) (hd:∀σ H,Pv xs.length σ H->D.nx σ H):
  ∃W:Nat->Nat->St->Hp->Prop,(∃m,W 0 m σ H)/\∀i m σ H,W i m σ H->
   ((Itl K a).stop i H/\D.nx σ H)\/((Itl K a).go i H/\∃N:St->Hp->Prop,(∀σ' H',N σ' H'->∃m',m' < m/\W (i+1) m' σ' H')/\∀x H',(Itl K a).yld i H x H'->g x σ H' fun σ2 H2=>tb {D with nx:=N,ct:=N,bk:=D.nx} σ2 H2):=by
 refine⟨λi m σ H=>m=xs.length - i/\i<=xs.length/\Pv i σ H,⟨xs.length,by simp,Nat.zero_le _,h0⟩,?_⟩;rintro i m σ H ⟨rfl,hi,p⟩;have q:=hl i σ H hi p;by_cases hlt:i < xs.length
 ·refine .inr ⟨⟨xs,xs[i],q,by simp[hlt]⟩,Pv (i+1),fun σ' H' p'=>⟨xs.length - (i+1),by omega,rfl,hlt,p'⟩,λx H' y=>?_⟩;obtain⟨e,y⟩:=y;subst e;exact hs i x σ _ (y xs q) p
 ·have e:i=xs.length:=by omega
  subst e;exact .inl ⟨⟨xs,q,Jb _⟩,hd σ H p⟩
theorem zlb {K:QA}{a:Addr}{xs:QQ}{g:TG}{tb:TS}{D:Ends}{σ:St}{H:Hp}(Pv:Nat->St->Hp->Prop)(h0:Pv 0 σ H)(hl:∀i σ H,i<=xs.length->Pv i σ H->SqT K H a xs)
  (hs:∀i x σ H,xs[i]? =some x->Pv i σ H->g x σ H fun σ2 H2=>tb {D with nx:=Pv (i+1),ct:=Pv (i+1),bk:=D.nx} σ2 H2) (hd:∀σ H,Pv xs.length σ H->D.nx σ H):
  ∃W:Nat->Nat->St->Hp->Prop,(∃m,W 0 m σ H)/\∀i m σ H,W i m σ H->
   ((Itt K a).stop i H/\D.nx σ H)\/((Itt K a).go i H/\∃N:St->Hp->Prop,(∀σ' H',N σ' H'->∃m',m' < m/\W (i+1) m' σ' H')/\∀x H',(Itt K a).yld i H x H'->g x σ H' fun σ2 H2=>tb {D with nx:=N,ct:=N,bk:=D.nx} σ2 H2):=by
 refine⟨λi m σ H=>m=xs.length - i/\i<=xs.length/\Pv i σ H,⟨xs.length,by simp,Nat.zero_le _,h0⟩,?_⟩;rintro i m σ H ⟨rfl,hi,p⟩;have q:=hl i σ H hi p;by_cases hlt:i < xs.length
 ·refine .inr ⟨⟨xs,xs[i],q,by simp[hlt]⟩,Pv (i+1),fun σ' H' p'=>⟨xs.length - (i+1),by omega,rfl,hlt,p'⟩,λx H' y=>?_⟩;obtain⟨e,y⟩:=y;subst e;exact hs i x σ _ (y xs q) p
 ·have e:i=xs.length:=by omega
  subst e;exact .inl ⟨⟨xs,q,Jb _⟩,hd σ H p⟩
theorem zcw {lo:Int}{n:Nat}{g:TG}{tb:TS}{D:Ends}{σ:St}{H:Hp}(Pv:Nat->St->Hp->Prop)(h0:Pv 0 σ H)
  (hs:∀i σ H,i < n->Pv i σ H->g (.int (lo+i)) σ H fun σ2 H2=>tb {D with nx:=Pv (i+1),ct:=Pv (i+1),bk:=D.nx} σ2 H2) (hd:∀σ H,Pv n σ H->D.nx σ H):
  ∃W:Nat->Nat->St->Hp->Prop,(∃m,W 0 m σ H)/\∀i m σ H,W i m σ H->
   ((Itr lo n).stop i H/\D.nx σ H)\/((Itr lo n).go i H/\∃N:St->Hp->Prop,(∀σ' H',N σ' H'->∃m',m' < m/\W (i+1) m' σ' H')/\∀x H',(Itr lo n).yld i H x H'->g x σ H' fun σ2 H2=>tb {D with nx:=N,ct:=N,bk:=D.nx} σ2 H2):=by
 refine⟨λi m σ H=>m=n - i/\i<=n/\Pv i σ H,⟨n,by simp,Nat.zero_le _,h0⟩,?_⟩;rintro i m σ H ⟨rfl,hi,p⟩;by_cases hlt:i < n
 ·refine .inr ⟨hlt,Pv (i+1),fun σ' H' p'=>⟨n - (i+1),by omega,rfl,hlt,p'⟩,λx H' y=>?_⟩;obtain⟨e,y⟩:=y;subst e y;exact hs i σ _ hlt p
 ·have e:i=n:=by omega
  subst e;exact .inl ⟨Jb _,hd σ H p⟩
end L2
namespace L2
open PySem PySem.Spec PyProof.Rows
abbrev R2:=V->V->Hp->VK->Prop
def OpR (X:Cx)(f:Value->Value->Sem Value)(r:R2):Prop:=
 ∀(pins:QE) (s:Shared) (σ:St) (H:Hp) (x y:V) (v u:Value) (Q:VK),Inv X pins σ H s->RelV x v->RelV y u->r x y H Q->
  wpAny (model X.prog X.w) X.A (f v u) (EP X pins σ Q) X.xe s
def UnR (X:Cx)(f:Value->Sem Value)(r:V->Hp->VK->Prop):Prop:=
 ∀(pins:QE) (s:Shared) (σ:St) (H:Hp) (x:V) (v:Value) (Q:VK),Inv X pins σ H s->RelV x v->r x H Q->
  wpAny (model X.prog X.w) X.A (f v) (EP X pins σ Q) X.xe s
def zbn (X:Cx)(f:Value)(r:List V->Hp->VK->Prop):Prop:=
 ∀(pins:QE) (s:Shared) (σ:St) (H:Hp) (xs:QQ) (us:QN) (Q:VK),Inv X pins σ H s->Vals xs us->r xs H Q->
  wpAny (model X.prog X.w) X.A (call f us) (EP X pins σ Q) X.xe s
def tOp (r:R2)(ta tb:TE):TE:=fun σ H Q=>ta σ H λx H1=>tb σ H1 λy H2=>r x y H2 Q
def tUn (r:V->Hp->VK->Prop)(ta:TE):TE:=fun σ H Q=>ta σ H λx H1=>r x H1 Q
def rI (C:Int->Int->Prop)(g:Int->Int->V):R2:=λx y H Q=>∃i j,x=.int i/\y=.int j/\C i j/\Q (g i j) H
def rI0 (g:Int->Int->V):R2:=λx y H Q=>∃i j,x=.int i/\y=.int j/\Q (g i j) H
def rU (g:Int->V):V->Hp->VK->Prop:=λx H Q=>∃i,x=.int i/\Q (g i) H
section
variable {X:Cx}{a b c:Expr}{ta tb tc:TE}{pos:Pos}
theorem binT (ha:PE X a ta)(hb:PE X b tb){pins:QE}{s:Shared}{σ:St}{H:Hp}{R:V->V->Hp->Prop}(I:Inv X pins σ H s)
  (h:ta σ H λx H1=>tb σ H1 λy H2=>R x y H2) {Q:QC} {f:Value->Value->Sem Value}
  (hf:∀v u s2 x y H2,Inv X pins σ H2 s2->RelV x v->RelV y u->R x y H2->wpAny (model X.prog X.w) X.A (f v u) Q X.xe s2):
  wpAny (model X.prog X.w) X.A (eval a X.env) (λv s₁=>wpAny (model X.prog X.w) X.A (eval b X.env) (λu s₂=>wpAny (model X.prog X.w) X.A (f v u) Q X.xe s₂) X.xe s₁) X.xe s:=by
 refine thn (ha pins s σ H _ I h) λv s1 ⟨x,H1,I1,r1,q1⟩=>?_;refine thn (hb pins s1 σ H1 _ I1 q1) λu s2 ⟨y,H2,I2,r2,q2⟩=>?_;exact hf v u s2 x y H2 I2 r1 r2 q2
theorem zC {op:Operator}{r:R2}(ho:OpR X (binaryOp op) r)(ha:PE X a ta)(hb:PE X b tb):PE X (.BinOp a op b pos) (tOp r ta tb):=by intro pins s σ H Q I h;exact wpAny_BinOp (binT ha hb I h λv u s2 x y H2 I2 rx ry q=>ho pins s2 σ H2 x y v u Q I2 rx ry q)
theorem zdc {op:UnaryOp}{r:V->Hp->VK->Prop}(ho:UnR X (unaryOp op) r)(ha:PE X a ta):PE X (.UnaryOp op a pos) (tUn r ta):=by intro pins s σ H Q I h;exact UnaryOp_ (thn (ha pins s σ H _ I h) λv s1 ⟨x,H1,I1,r1,q1⟩=>ho pins s1 σ H1 x v Q I1 r1 q1)
theorem opI {f:Value->Value->Sem Value}{C:Int->Int->Prop}{g:Int->Int->Int}
  (rule:∀(i j:Int) (t u:Tok) (s:Shared) (Q:QC) (E:QC),C i j->Q (.int (g i j) s.toks) {s with toks:=s.toks+1}->wpAny (model X.prog X.w) X.A (f (.int i t) (.int j u)) Q E s):
  OpR X f (rI C λi j=>.int (g i j)):=by
 intro pins s σ H x y v u Q I rx ry h;obtain⟨i,j,rfl,rfl,hc,q⟩:=h;obtain⟨t,rfl⟩:=rx;obtain⟨t',rfl⟩:=ry;exact rule i j t t' s _ _ hc ⟨.int (g i j),H,I.tok _,⟨_,rfl⟩,q⟩
theorem opI0 {f:Value->Value->Sem Value}{g:Int->Int->Int}
  (rule:∀(i j:Int) (t u:Tok) (s:Shared) (Q:QC) (E:QC),Q (.int (g i j) s.toks) {s with toks:=s.toks+1}->wpAny (model X.prog X.w) X.A (f (.int i t) (.int j u)) Q E s):
  OpR X f (rI0 λi j=>.int (g i j)):=by
 intro pins s σ H x y v u Q I rx ry h;obtain⟨i,j,rfl,rfl,q⟩:=h;obtain⟨t,rfl⟩:=rx;obtain⟨t',rfl⟩:=ry;exact rule i j t t' s _ _ ⟨.int (g i j),H,I.tok _,⟨_,rfl⟩,q⟩
theorem opB0 {f:Value->Value->Sem Value}{g:Int->Int->Bool}
  (rule:∀(i j:Int) (t u:Tok) (s:Shared) (Q:QC) (E:QC),Q (.bool (g i j)) s->wpAny (model X.prog X.w) X.A (f (.int i t) (.int j u)) Q E s):
  OpR X f (rI0 λi j=>.bl (g i j)):=by
 intro pins s σ H x y v u Q I rx ry h;obtain⟨i,j,rfl,rfl,q⟩:=h;obtain⟨t,rfl⟩:=rx;obtain⟨t',rfl⟩:=ry;exact rule i j t t' s _ _ ⟨.bl (g i j),H,I,rfl,q⟩
def CPow (i j:Int):Prop:=0<=j/\j<=1000000/\i.natAbs < 2 ^ 64
def CMul (i j:Int):Prop:=(-(2 ^ 64) < i/\i < 2 ^ 64)\/(-(2 ^ 64) < j/\j < 2 ^ 64)
theorem CMul.ok {i j:Int}(h:CMul i j):IntMulOk i j:=by
 rcases h with ⟨h1,h2⟩ | ⟨h1,h2⟩
 ·exact .of_left (intBits_le_64 h1 h2)
 ·exact .of_right (intBits_le_64 h1 h2)
theorem zar:OpR X (binaryOp .Add) (rI0 λi j=>.int (i+j)):=opI0 λ_ _ _ _ _ _ _ q=>add_int q
theorem zbf:OpR X (binaryOp .Sub) (rI0 λi j=>.int (i - j)):=opI0 λ_ _ _ _ _ _ _ q=>sub_int q
theorem zcc:OpR X (binaryOp .Mult) (rI CMul λi j=>.int (i * j)):=opI λ_ _ _ _ _ _ _ hc q=>mul_int q hc.ok
theorem zaO:OpR X (binaryOp .Mod) (rI (λ_ j=>0 < j) λi j=>.int (i % j)):=opI λi j _ _ _ _ _ hc q=>by have h1:(0:Int) < j:=hc;exact mod_int' (by omega) (by rw[Int.fmod_eq_emod_of_nonneg i (by omega)];exact q)
theorem zca:OpR X (binaryOp .Pow) (rI CPow λi j=>.int (i ^ j.toNat)):=opI λ_ _ _ _ _ _ _ hc q=>pow_int_small hc.1 hc.2.1 hc.2.2 q
theorem unI {f:Value->Sem Value}{g:Int->Int}
  (rule:∀(i:Int) (t:Tok) (s:Shared) (Q:QC) (E:QC),Q (.int (g i) s.toks) {s with toks:=s.toks+1}->wpAny (model X.prog X.w) X.A (f (.int i t)) Q E s):
  UnR X f (rU λi=>.int (g i)):=by
 intro pins s σ H x v Q I rx h;obtain⟨i,rfl,q⟩:=h;obtain⟨t,rfl⟩:=rx;exact rule i t s _ _ ⟨.int (g i),H,I.tok _,⟨_,rfl⟩,q⟩
theorem zbK:UnR X (unaryOp .USub) (rU λi=>.int (-i)):=unI λ_ _ _ _ _ q=>neg_int q
end
noncomputable def scal:V->V->Bool
 | .non,.non=>true | .non,.int _=>true | .int _,.non=>true | .non,.bl _=>true | .bl _,.non=>true | .non,.str _=>true | .str _,.non=>true
 | .int _,.int _=>true | .bl _,.bl _=>true | .str _,.str _=>true | .byt _,.byt _=>true
 | .int _,.str _=>true | .str _,.int _=>true | .bl _,.str _=>true | .str _,.bl _=>true
 | _,_=>false
def rEq:R2:=λx y H Q=>scal x y=true/\Q (.bl (decide (x=y))) H
def rNe:R2:=λx y H Q=>scal x y=true/\Q (.bl (!decide (x=y))) H
theorem zkK {i j:Int}:decide (V.int i=V.int j)=(i==j):=by rw[Bool.eq_iff_iff];simp
theorem znV {i j:Bool}:decide (V.bl i=V.bl j)=(i==j):=by rw[Bool.eq_iff_iff];simp
theorem zky {i j:Str}:decide (V.str i=V.str j)=(i==j):=by rw[Bool.eq_iff_iff];simp
theorem zkQ {i j:Array UInt8}:decide (V.byt i=V.byt j)=(i.toList==j.toList):=by rw[Bool.eq_iff_iff];cases i;cases j;simp
section
variable {X:Cx}{a b c:Expr}{ta tb tc:TE}{pos:Pos}
theorem zU {pins:QE}{σ:St}{H:Hp}{s:Shared}{Q:VK}{k k':Bool}(I:Inv X pins σ H s)(q:Q (.bl k) H)(e:k=k'):EP X pins σ Q (.bool k') s:=by subst e;exact⟨.bl k,H,I,rfl,q⟩
theorem zcu:OpR X (compareOp .Eq) rEq:=by
 intro pins s σ H x y v u Q I rx ry h;obtain⟨hs,q⟩:=h;cases x with
 | non=>
  cases rx;cases y with
  | non=>cases ry;exact PySem.EqNone.eq_none_none (zU I q (by simp))
  | bl j=>cases ry;exact PySem.EqNone.eq_none_bool (zU I q (by simp))
  | int j=>obtain⟨t',rfl⟩:=ry;exact PySem.EqNone.eq_none_int (zU I q (by simp))
  | str j=>obtain⟨t',rfl⟩:=ry;exact PySem.EqNone.eq_none_str (zU I q (by simp))
  | _=>exact Ji (show false=true from hs) Jh
 | bl i=>
  cases rx;cases y with
  | non=>cases ry;exact PySem.EqNone.eq_bool_none (zU I q (by simp))
  | bl j=>cases ry;exact eq_bool (zU I q znV)
  | str j=>obtain⟨t',rfl⟩:=ry;exact PySem.EqMixed.eq_bool_str (zU I q (by simp))
  | _=>exact Ji (show false=true from hs) Jh
 | int i=>
  obtain⟨t,rfl⟩:=rx;cases y with
  | non=>cases ry;exact PySem.EqNone.eq_int_none (zU I q (by simp))
  | int j=>obtain⟨t',rfl⟩:=ry;exact eq_int (zU I q zkK)
  | str j=>obtain⟨t',rfl⟩:=ry;exact PySem.EqMixed.eq_int_str (zU I q (by simp))
  | _=>exact Ji (show false=true from hs) Jh
 | str i=>
  obtain⟨t,rfl⟩:=rx;cases y with
  | non=>cases ry;exact PySem.EqNone.eq_str_none (zU I q (by simp))
  | bl j=>cases ry;exact PySem.EqMixed.eq_str_bool (zU I q (by simp))
  | int j=>obtain⟨t',rfl⟩:=ry;exact PySem.EqMixed.eq_str_int (zU I q (by simp))
  | str j=>obtain⟨t',rfl⟩:=ry;exact eq_str (zU I q zky)
  | _=>exact Ji (show false=true from hs) Jh
 | byt i=>
  obtain⟨t,rfl⟩:=rx;cases y with
  | byt j=>obtain⟨t',rfl⟩:=ry;exact PySem.W.eq_bytes (zU I q zkQ)
  | _=>exact Ji (show false=true from hs) Jh
 | _=>cases y <;> exact Ji (show false=true from hs) Jh
theorem zcr:OpR X (compareOp .NotEq) rNe:=by
 intro pins s σ H x y v u Q I rx ry h;obtain⟨hs,q⟩:=h;cases x with
 | non=>
  cases rx;cases y with
  | non=>cases ry;exact PySem.EqNone.ne_none_none (zU I q (by simp))
  | bl j=>cases ry;exact PySem.EqNone.ne_none_bool (zU I q (by simp))
  | int j=>obtain⟨t',rfl⟩:=ry;exact PySem.EqNone.ne_none_int (zU I q (by simp))
  | str j=>obtain⟨t',rfl⟩:=ry;exact PySem.EqNone.ne_none_str (zU I q (by simp))
  | _=>exact Ji (show false=true from hs) Jh
 | bl i=>
  cases rx;cases y with
  | non=>cases ry;exact PySem.EqNone.ne_bool_none (zU I q (by simp))
  | bl j=>cases ry;exact ne_bool (zU I q (congrArg not znV))
  | str j=>obtain⟨t',rfl⟩:=ry;exact PySem.EqMixed.ne_bool_str (zU I q (by simp))
  | _=>exact Ji (show false=true from hs) Jh
 | int i=>
  obtain⟨t,rfl⟩:=rx;cases y with
  | non=>cases ry;exact PySem.EqNone.ne_int_none (zU I q (by simp))
  | int j=>obtain⟨t',rfl⟩:=ry;exact ne_int (zU I q (congrArg not zkK))
  | str j=>obtain⟨t',rfl⟩:=ry;exact PySem.EqMixed.ne_int_str (zU I q (by simp))
  | _=>exact Ji (show false=true from hs) Jh
 | str i=>
  obtain⟨t,rfl⟩:=rx;cases y with
  | non=>cases ry;exact PySem.EqNone.ne_str_none (zU I q (by simp))
  | bl j=>cases ry;exact PySem.EqMixed.ne_str_bool (zU I q (by simp))
  | int j=>obtain⟨t',rfl⟩:=ry;exact PySem.EqMixed.ne_str_int (zU I q (by simp))
  | str j=>obtain⟨t',rfl⟩:=ry;exact ne_str (zU I q (congrArg not zky))
  | _=>exact Ji (show false=true from hs) Jh
 | byt i=>
  obtain⟨t,rfl⟩:=rx;cases y with
  | byt j=>obtain⟨t',rfl⟩:=ry;exact PySem.W.ne_bytes (zU I q (congrArg not zkQ))
  | _=>exact Ji (show false=true from hs) Jh
 | _=>cases y <;> exact Ji (show false=true from hs) Jh
theorem zcY:OpR X (compareOp .Lt) (rI0 λi j=>.bl (decide (i < j))):=opB0 λ_ _ _ _ _ _ _ q=>lt_int q
theorem zpP:OpR X (compareOp .LtE) (rI0 λi j=>.bl (decide (i<=j))):=opB0 λ_ _ _ _ _ _ _ q=>le_int q
theorem zmW:OpR X (compareOp .Gt) (rI0 λi j=>.bl (decide (j < i))):=opB0 λ_ _ _ _ _ _ _ q=>gt_int q
theorem zkW:OpR X (compareOp .GtE) (rI0 λi j=>.bl (decide (j<=i))):=opB0 λ_ _ _ _ _ _ _ q=>ge_int q
theorem zhB:OpR X (compareOp .Lt) (λx y H Q=>∃i j,x=.str i/\y=.str j/\Q (.bl (decide (i.cps.toList < j.cps.toList))) H):=by intro pins s σ H x y v u Q I rx ry h;obtain⟨i,j,rfl,rfl,q⟩:=h;obtain⟨t,rfl⟩:=rx;obtain⟨t',rfl⟩:=ry;exact lt_str (zU I q rfl)
theorem zcI:OpR X (compareOp .Is) (λx y H Q=>y=.non/\Q (.bl (decide (x=.non))) H):=by
 intro pins s σ H x y v u Q I rx ry h;obtain⟨rfl,q⟩:=h;cases ry;refine is_none_gen (zU I q ?_);cases x <;> first
  | (cases rx;rfl)
  | (obtain⟨t,rfl⟩:=rx;rfl)
theorem zfN:OpR X (compareOp .IsNot) (λx y H Q=>y=.non/\Q (.bl (!decide (x=.non))) H):=by
 intro pins s σ H x y v u Q I rx ry h;obtain⟨rfl,q⟩:=h;cases ry;refine isnot_none_gen (zU I q ?_);cases x <;> first
  | (cases rx;rfl)
  | (obtain⟨t,rfl⟩:=rx;rfl)
theorem OpR.or {f:Value->Value->Sem Value}{r r':R2}(h:OpR X f r)(h':OpR X f r'):OpR X f (λx y H Q=>r x y H Q\/r' x y H Q):=by
 intro pins s σ H x y v u Q I rx ry q;rcases q with q | q
 ·exact h pins s σ H x y v u Q I rx ry q
 ·exact h' pins s σ H x y v u Q I rx ry q
theorem zA (b:Expr){op:CmpOp}(h:op≠ .In:=by decide)(h2:op≠ .NotIn:=by decide):behindInMarks op b=false:=by
 have e1:(op==CmpOp.In)=false:=by cases op <;> first | rfl | exact Ji rfl h
 have e2:(op==CmpOp.NotIn)=false:=by cases op <;> first | rfl | exact Ji rfl h2
 cases b <;> simp[behindInMarks,e1,e2]
theorem zax {op:CmpOp}{r:R2}(ho:OpR X (compareOp op) r)(ha:PE X a ta)(hb:PE X b tb)(hm:behindInMarks op b=false):PE X (.Compare a [op] [b] pos) (tOp r ta tb):=by intro pins s σ H Q I h;exact wpAny_Compare1 (binT ha hb I h λv u s2 x y H2 I2 rx ry q=>ho pins s2 σ H2 x y v u Q I2 rx ry q) hm
def zrB (t:TE):TT:=fun σ H Q=>t σ H λx H'=>∃k,x=.bl k/\Q k H'
theorem zB {op:CmpOp}{r:R2}(ho:OpR X (compareOp op) r)(ha:PE X a ta)(hb:PE X b tb)(hm:behindInMarks op b=false):PT X (.Compare a [op] [b] pos) (zrB (tOp r ta tb)):=by
 intro pins s σ H Q I h;refine wpAny_isTrue_Compare1 (thn (ha pins s σ H _ I h) λv s1 ⟨x,H1,I1,r1,q1⟩=>thn (hb pins s1 σ H1 _ I1 q1) λu s2 ⟨y,H2,I2,r2,q2⟩=>
  thn (ho pins s2 σ H2 x y v u _ I2 r1 r2 q2) λc s3 ⟨z,H3,I3,r3,k,e,q3⟩=>?_) hm
 subst e;cases r3;exact wpAny_truthy_bool ⟨H3,I3,q3⟩
def zqz (r r':R2)(ta tb tc:TE):TE:=fun σ H Q=>ta σ H λx H1=>tb σ H1 λy H2=>r x y H2 λz H3=>∃k,z=.bl k/\
 (if k=true then tc σ H3 λw' H4=>r' y w' H4 Q else Q (.bl false) H3)
theorem zmF {op op':CmpOp}{r r':R2}(ho:OpR X (compareOp op) r)(ho':OpR X (compareOp op') r')(ha:PE X a ta)(hb:PE X b tb)(hc:PE X c tc)
  (hm:lastMarks [op,op'] [b,c]=false:=by with_unfolding_all rfl):PE X (.Compare a [op,op'] [b,c] pos) (zqz r r' ta tb tc):=by
 intro pins s σ H Q I h;refine Compare_chain (thn (ha pins s σ H _ I h) λv s1 ⟨x,H1,I1,r1,q1⟩=>chain_link (thn (hb pins s1 σ H1 _ I1 q1) λu s2 ⟨y,H2,I2,r2,q2⟩=>
  thn (ho pins s2 σ H2 x y v u _ I2 r1 r2 q2) λd s3 ⟨z,H3,I3,r3,k,e,q3⟩=>?_)) hm
 subst e;cases r3;refine wpAny_truthy_bool ?_;cases k with
 | false=>exact ite_ff ⟨.bl false,H3,I3,rfl,q3⟩
 | true=>exact ite_tt (chain_last (thn (hc pins s3 σ H3 _ I3 q3) λw' s4 ⟨z',H4,I4,r4,q4⟩=>ho' pins s4 σ H4 y z' u w' Q I4 r2 r4 q4))
theorem zgs:(sizeLine:Nat) < 2 ^ 63:=by rw[sizeLine_eq];decide
theorem zf6:OpR X (binaryOp .Add) (λx y H Q=>∃i j,x=.str i/\y=.str j/\i.length+j.length<=sizeLine/\Q (.str (i++j)) H):=by intro pins s σ H x y v u Q I rx ry h;obtain⟨i,j,rfl,rfl,hz,q⟩:=h;obtain⟨t,rfl⟩:=rx;obtain⟨t',rfl⟩:=ry;exact add_str (λt' tk=>⟨.str (i++j),H,I.tok _,⟨_,rfl⟩,q⟩) hz
theorem vals1 {x:V}{us:QN}(r:Vals [x] us):∃u,us=[u]/\RelV x u:=by
 cases r with
 | cons r1 r2=>cases r2;exact⟨_,rfl,r1⟩
theorem vals2 {x y:V}{us:QN}(r:Vals [x,y] us):∃u w',us=[u,w']/\RelV x u/\RelV y w':=by
 cases r with
 | cons r1 r2=>
  cases r2 with
  | cons r3 r4=>cases r4;exact⟨_,_,rfl,r1,r3⟩
theorem zlR (hc:X.calm=true):zbn X (.builtin "min") (λxs H Q=>∃i j,xs=[.int i,.int j]/\Q (.int (if j < i then j else i)) H):=by
 intro pins s σ H xs us Q I r h;obtain⟨i,j,rfl,q⟩:=h;obtain⟨u,w',rfl,⟨t,rfl⟩,⟨t',rfl⟩⟩:=vals2 r;refine min_two_ints (I.ok.hd hc) λh' tk k=>⟨_,H,I.kept k,?_,q⟩;by_cases hj:j < i
 ·rw[if_pos hj,if_pos hj];exact⟨_,rfl⟩
 ·rw[if_neg hj,if_neg hj];exact⟨_,rfl⟩
theorem zlW:zbn X (.type "int") (λxs H Q=>(∃i,xs=[.int i]/\Q (.int i) H)\/∃k,xs=[.bl k]/\Q (.int (if k then 1 else 0)) H):=by
 intro pins s σ H xs us Q I r h;rcases h with ⟨i,rfl,q⟩ | ⟨k,rfl,q⟩
 ·obtain⟨u,rfl,t,rfl⟩:=vals1 r;exact call_int_int ⟨.int i,H,I,⟨_,rfl⟩,q⟩
 ·obtain⟨u,rfl,r1⟩:=vals1 r;cases r1;exact call_int_bool ⟨.int (if k then 1 else 0),H,I.tok _,⟨_,rfl⟩,q⟩
theorem zm0:zbn X (.builtin "ord") (λxs H Q=>∃x,xs=[.str x]/\x.length=1/\Q (.int (x.cps.getD 0 0:Nat)) H):=by intro pins s σ H xs us Q I r h;obtain⟨x,rfl,hz,q⟩:=h;obtain⟨u,rfl,t,rfl⟩:=vals1 r;exact ord_of_one hz ⟨.int _,H,I.tok _,⟨_,rfl⟩,q⟩
end
end L2
namespace L2
open PySem PySem.Spec PyProof.Rows
structure ObjM (h:Heap)(x dx C:Addr)(mA:QB):Prop where
 obj:h.get? x=some (PySem.W.instObj C dx)
 ns:h.Ns1 dx mA
 ne:dx≠x
theorem zhe {h:Heap}{dx:Addr}{mA:QB}(n:h.Ns1 dx mA):∃od,h.get? dx=some od/\∀name,PySem.W.lookIn name od=some (mA name):=by
 obtain⟨o,es,ep,ho,hd,hk,_,hm⟩:=n;refine⟨o,ho,λname=>?_⟩;have e:=hm name;unfold nsFind findBy at e;rw[<-Array.find?_toList] at e;unfold PySem.W.lookIn;rw[hd];dsimp only;split
 ·rename_i y q;rw[q] at e;exact congrArg some e
 ·rename_i q;rw[q] at e;have a:es.toList.any (·.refKey)=false:=by rw[List.any_eq_false];intro y hy;obtain⟨z,t,hkey⟩:=hk y (Array.mem_toList_iff.mp hy);simp[DictEntry.refKey,hkey]
  have a':¬es.toList.any (·.refKey)=true:=by rw[a];exact Jh
  rw[if_neg a'];exact congrArg some e
theorem ObjM.look {h:Heap}{x dx C:Addr}{mA:QB}(I:ObjM h x dx C mA):∃od,PySem.W.InstAt h x (PySem.W.instObj C dx) C (some od)/\∀name,PySem.W.lookIn name od=some (mA name):=
 let ⟨od,ho,hl⟩:=zhe I.ns
 ⟨od,⟨I.obj,rfl,rfl,ho⟩,hl⟩
section
variable {prog:Program}{w:World}{A:Around}{E:QC}{s:Shared}{K:QA}{x dx C f:Addr}{mA:QB}{name:Str}{v:Value}
theorem get_map {expr:Bool}{Q:QC}(X:K.In s.heap)(I:ObjM s.heap x dx C mA)(hg:PySem.W.plainGet K C name=true)(hh:PySem.W.hasDictIn K C=true)
  (ha:PySem.W.findIn K (.ref C) name=some none) (hv:mA name=some v) (hv':PySem.W.handedIn v=true) (h:Q v {s with toks:=s.toks+1}):
  wpAny (model prog w) A (getAttr (.ref x) name expr) Q E s:=by
 obtain⟨od,J,hl⟩:=I.look;exact PySem.W.get_value X J (PySem.W.plainGet_of hg).1 (PySem.W.findObj_own hh ha rfl (by rw[hl,hv])) hv' h
theorem zn7 {pl:Sem Bool}{Q:Value ×List Value->Shared->Prop}(X:K.In s.heap)(I:ObjM s.heap x dx C mA)(hg:PySem.W.plainGet K C name=true)
  (hf:PySem.W.findIn K (.ref C) name=some (some (.ref f))) (ht:PySem.W.isFn K (.ref f)=true) (hv:mA name=none) (h:Q (.ref f,[.ref x]) s):
  wpAny (model prog w) A (getMethod (.ref x) name pl) Q E s:=by
 obtain⟨od,J,hl⟩:=I.look;exact PySem.W.method_fn X J (PySem.W.plainGet_of hg).1 (PySem.W.plainGet_of hg).2 hf (beq_iff_eq.mp ht) (by show(PySem.W.lookIn name od).map (·.isSome)=some false;rw[hl,hv];rfl) h
theorem zoZ {ns:QP}{Q:QD}(X:K.In s.heap)(I:ObjM s.heap x dx C mA)
  (hs:PySem.W.findIn K (.ref C) "__setattr__" =some (some (.builtin "object.__setattr__"))) (hp:PySem.W.plainOver K C=true) (ht:PySem.W.takerIn K C name=some none) (hh:PySem.W.hasDictIn K C=true)
  (hw:PySem.Within mA ns) (hsz:ns.length<=sizeLine)
  (h:∀h',ObjM h' x dx C (λy=>if y=name then some v else mA y)->Heap.SameBut dx s.heap h'->Q () {s with heap:=h',toks:=s.toks+2}):
  wpAny (model prog w) A (setAttr (.ref x) name v) Q E s:=by
 obtain⟨od,J,hl⟩:=I.look;refine PySem.W.set_plain X J hs (PySem.W.osa_open (s:={s with toks:=s.toks+1}) (r:=none) X J hp ht λb=>?_);obtain⟨cd,hc,hd'⟩:=PySem.W.any_some hh;have hx:s.heap.get? x=some ⟨.ref C,some dx,.plain, #[]⟩:=I.obj;refine Ja (wpAny_pure (Ja (Ja (wpAny_loadPart hx (Ja (PySem.W.Looks.here (s:={s with toks:=s.toks+1}) (PySem.W.looks_clsIn X hc) ?_))))));rw[hd'];refine wpAny_pure (a:=some dx) (Ja (wpAny_pure (Ja ?_)));refine wpAny_nsSet1 (s:={s with toks:=s.toks+1}) I.ns λh' hn2 hs2=>?_;obtain⟨oD,esD,epD,hoD,hdD,hcD⟩:=hn2.count (PySem.Within.cons name v hw);refine Ja (wpAny_lookBehind hoD (by rw[hdD];exact pastItsLine_dict (Jn hcD (by rw[List.length_cons];omega))) ?_);exact wpAny_pure (h _ ⟨(hs2.2 _ (Ne.symm I.ne)).trans I.obj,hn2,I.ne⟩ hs2)
abbrev _root_.QK:=List (Str ×Value)
theorem zmZ {R:Result->Shared->Prop}{vs:QN}{kw:QK}(X:K.In s.heap)(hm:PySem.W.makesIn K C=true)
  (hi:PySem.W.findIn K (.ref C) "__init__" =some (some (.ref f))) (hf:PySem.W.typeIn K (.ref f)=some (.type "function"))
  (h:codeAny (model prog w) (A.under (.builtin "type.__call__" ⟨.ref C::vs,kw⟩)) (.call (.ref f) ⟨.ref (s.heap.objs.size+1)::vs,kw⟩) (PySem.W.InitBack (s.heap.objs.size+1) R)
   {s with heap:=(s.heap.push PySem.W.emptyDict).push (PySem.W.instObj C s.heap.objs.size)}):
  codeAny (model prog w) A (.call (.ref C) ⟨vs,kw⟩) R s:=by
 obtain⟨hh,g,d,t,os⟩:=s;exact PySem.W.make_core (PySem.W.makes_of X hm) (PySem.W.looks_findIn X hi) (λself=>PySem.W.bind_fn X self hf) (.inl rfl) h
end
noncomputable def putF (f:Str)(v:V):List (Str ×V)->List (Str ×V)
 | []=>[(f,v)]
 | (g,x)::r=>if g=f then(g,v)::r else(g,x)::putF f v r
theorem zdl (f g:Str)(v:V):∀fs:List (Str ×V),(putF f v fs).lookup g=if g=f then some v else fs.lookup g
 | []=>by
  show List.lookup g [(f,v)]=_;by_cases h:g=f
  ·have hb:(g==f)=true:=beq_iff_eq.mpr h;simp only[List.lookup,hb,if_pos h]
  ·have hb:(g==f)=false:=beq_eq_false_iff_ne.mpr h;simp only[List.lookup,hb,if_neg h]
 | (k,x)::r=>by
  have ih:=zdl f g v r;rw[show putF f v ((k,x)::r)=(if k=f then(k,v)::r else(k,x)::putF f v r) from rfl];by_cases hk:k=f
  ·rw[if_pos hk];by_cases h:g=k
   ·have hb:(g==k)=true:=beq_iff_eq.mpr h;simp only[List.lookup,hb,if_pos (h.trans hk)]
   ·have hb:(g==k)=false:=beq_eq_false_iff_ne.mpr h;simp only[List.lookup,hb,if_neg (λe:g=f=>h (e.trans hk.symm))]
  ·rw[if_neg hk];by_cases h:g=k
   ·have hb:(g==k)=true:=beq_iff_eq.mpr h;simp only[List.lookup,hb,if_neg (λe:g=f=>hk (h.symm.trans e))]
   ·have hb:(g==k)=false:=beq_eq_false_iff_ne.mpr h;simp only[List.lookup,hb];exact ih
theorem zcg (f:Str)(v:V):∀fs:List (Str ×V),f∈(putF f v fs).map (·.1)/\∀g,g∈fs.map (·.1)->g∈(putF f v fs).map (·.1)
 | []=>⟨by simp[putF],λg h=>by simp at h⟩
 | (k,x)::r=>by
  obtain⟨i1,i2⟩:=zcg f v r;rw[show putF f v ((k,x)::r)=(if k=f then(k,v)::r else(k,x)::putF f v r) from rfl];by_cases hk:k=f
  ·rw[if_pos hk];subst hk;exact⟨by simp,λg h=>by simpa using h⟩
  ·rw[if_neg hk];refine⟨?_,λg h=>?_⟩
   ·rw[List.map_cons];exact Jl _ i1
   ·rw[List.map_cons] at h ⊢;rcases List.mem_cons.mp h with e | e
    ·exact List.mem_cons.mpr (.inl e)
    ·exact Jl _ (i2 g e)
theorem zfw (f:Str)(v:V):∀fs:List (Str ×V),(putF f v fs).length<=fs.length+1
 | []=>by simp[putF]
 | (k,x)::r=>by
  have ih:=zfw f v r;rw[show putF f v ((k,x)::r)=(if k=f then(k,v)::r else(k,x)::putF f v r) from rfl];by_cases hk:k=f
  ·rw[if_pos hk,List.length_cons,List.length_cons];omega
  ·rw[if_neg hk,List.length_cons,List.length_cons];omega
theorem RelO.some_of {v:V}{o:Option Value}(r:RelO (some v) o):∃u,o=some u/\RelV v u:=by
 cases o with
 | none=>exact(show False from r).elim
 | some u=>exact⟨u,rfl,r⟩
theorem RelO.none_of {o:Option Value}(r:RelO none o):o=none:=by
 cases o with
 | none=>rfl
 | some u=>exact(show False from r).elim
theorem zhy {v:V}{u:Value}(r:RelV v u):PySem.W.handedIn u=true:=by
 cases v with
 | non=>cases (show u=Value.none from r);rfl
 | bl b=>cases (show u=Value.bool b from r);rfl
 | int i=>obtain⟨t,e⟩:=(show∃t,u=Value.int i t from r);cases e;rfl
 | str x=>obtain⟨t,e⟩:=(show∃t,u=Value.str x t from r);cases e;rfl
 | byt b=>obtain⟨t,e⟩:=(show∃t,u=Value.bytes b t from r);cases e;rfl
 | flt b=>obtain⟨t,e⟩:=(show∃t,u=Value.float b t from r);cases e;rfl
 | ref a=>cases (show u=Value.ref a from r);rfl
 | ty n=>cases (show u=Value.type n from r);rfl
section
variable {P:Program}{w:World}{H H':Hp}{h h':Heap}{a C dx:Addr}{fs fs':List (Str ×V)}
theorem zey (hok:HOk P w H h)(e:H a=some (.ins C dx fs)):∃mA,ObjM h a dx C mA/\(∀f,RelO (fs.lookup f) (mA f))/\PySem.Within mA (fs.map (·.1))/\fs.length<=1000/\H dx=some (.own a):=by obtain⟨d,z,ne,ob,mA,n,r,q⟩:=(show zZ P w H h a (.ins C dx fs) from hok a _ e);exact⟨mA,⟨ob,n,ne⟩,r,q,z,d⟩
end
structure Cls (K:QA)(C:Addr):Prop where
 pg:PySem.W.plainGet K C Str.empty=true
 hd:PySem.W.hasDictIn K C=true
 po:PySem.W.plainOver K C=true
 sa:PySem.W.findIn K (.ref C) "__setattr__" =some (some (.builtin "object.__setattr__"))
theorem Cls.get {K:QA}{C:Addr}(c:Cls K C)(f:Str):PySem.W.plainGet K C f=true:=c.pg
def zR (K:QA)(C:Addr)(f:Str):Prop:=PySem.W.findIn K (.ref C) f=some none
theorem zR.taker {K:QA}{C:Addr}{f:Str}(n:zR K C f):PySem.W.takerIn K C f=some none:=by
 unfold PySem.W.takerIn;rw[show PySem.W.findIn K (.ref C) f=some none from n]
 rfl
structure Con (K:QA)(C:Addr)(f:Str)(v:V)(u:Value):Prop where
 at_:PySem.W.findIn K (.ref C) f=some (some u)
 rel:RelV v u
 get:PySem.W.specialIn K u "__get__" =some none
 cp:PySem.W.copiedNames.contains f=false
structure Meth (K:QA)(C:Addr)(m:Str)(f:Addr):Prop where
 at_:PySem.W.findIn K (.ref C) m=some (some (.ref f))
 fn:PySem.W.isFn K (.ref f)=true
 kp:PySem.W.keepIn K (.ref f)=true
section
variable {X:Cx}{pins:QE}{σ:St}{H:Hp}{s:Shared}{a C dx:Addr}{fs:List (Str ×V)}{f:Str}{v:V}{A:Around}{E:QC}
theorem zj9 {b:Bool}{Q:QC}(I:Inv X pins σ H s)(e:H a=some (.ins C dx fs))(c:Cls X.K C)(n:zR X.K C f)(l:fs.lookup f=some v)
  (h:∀u s',Inv X pins σ H s'->RelV v u->Q u s'):wpAny (model X.prog X.w) A (getAttr (.ref a) f b) Q E s:=by
 obtain⟨mA,O,r,_,_,_⟩:=zey I.hok e;obtain⟨u,hu,ru⟩:=RelO.some_of (v:=v) (o:=mA f) (by rw[<-l];exact r f);exact get_map I.kIn O (c.get f) c.hd n hu (zhy ru) (h u _ (I.tok _) ru)
theorem zdW {m:Str}{g:Addr}{pl:Sem Bool}{Q:Value ×List Value->Shared->Prop}(I:Inv X pins σ H s)(e:H a=some (.ins C dx fs))(c:Cls X.K C)(k:Meth X.K C m g)(l:fs.lookup m=none)
  (h:Q (.ref g,[.ref a]) s):wpAny (model X.prog X.w) A (getMethod (.ref a) m pl) Q E s:=by
 obtain⟨mA,O,r,_,_,_⟩:=zey I.hok e;have hn:mA m=none:=RelO.none_of (by rw[<-l];exact r m);exact zn7 I.kIn O (c.get m) k.at_ k.fn hn h
theorem zjP {y:V}{u:Value}{Q:QD}(I:Inv X pins σ H s)(e:H a=some (.ins C dx fs))(c:Cls X.K C)(n:zR X.K C f)(hl:fs.length < 1000)(ry:RelV y u)
  (h:∀s',Inv X pins σ (upd H a (.ins C dx (putF f y fs))) s'->Q () s'):wpAny (model X.prog X.w) A (setAttr (.ref a) f u) Q E s:=by
 obtain⟨mA,O,r,wi,_,ho⟩:=zey I.hok e;have hz:(fs.map (·.1)).length<=sizeLine:=by rw[List.length_map,sizeLine_eq];omega
 refine zoZ I.kIn O c.sa c.po n.taker c.hd wi hz λh' O' sb=>h _ ?_;have hd:∃o,h'.get? dx=some o:=let ⟨o,_,_,e',_⟩:=O'.ns;⟨o,e'⟩;refine I.write (x:=a) (e:=dx) (by rw[e];exact True.intro) (.inr ho) (λb q hb z=>(sb.2 b hb).trans z) hd ?_;refine⟨by rw[zl O.ne];exact ho,?_,O.ne,O'.obj,_,O'.ns,λg=>?_,λg hg=>?_⟩
 ·have:=zfw f y fs;omega
 ·show RelO ((putF f y fs).lookup g) (if g=f then some u else mA g);rw[zdl];by_cases q:g=f
  ·rw[if_pos q,if_pos q];exact ry
  ·rw[if_neg q,if_neg q];exact r g
 ·by_cases q:g=f
  ·rw[q];exact(zcg f y fs).1
  ·refine(zcg f y fs).2 g (wi g λz=>hg ?_);show(if g=f then some u else mA g)=none;rw[if_neg q];exact z
noncomputable abbrev _root_.JB:=@Nat.lt_succ_self
theorem Inv.made (I:Inv X pins σ H s):Inv X pins σ (upd (upd H s.heap.objs.size (.own (s.heap.objs.size+1))) (s.heap.objs.size+1) (.ins C s.heap.objs.size []))
  {s with heap:=(s.heap.push PySem.W.emptyDict).push (PySem.W.instObj C s.heap.objs.size)}:=by
 have e1:(s.heap.push PySem.W.emptyDict).get? s.heap.objs.size=some PySem.W.emptyDict:=Heap.get?_push_size s.heap rfl;have e2:((s.heap.push PySem.W.emptyDict).push (PySem.W.instObj C s.heap.objs.size)).get? (s.heap.objs.size+1)=some (PySem.W.instObj C s.heap.objs.size):=by have:=Heap.get?_push_size (s.heap.push PySem.W.emptyDict) (o:=PySem.W.instObj C s.heap.objs.size) rfl;rwa[Heap.size_push] at this
 have e3:(s.heap.push PySem.W.emptyDict).Ns s.heap.objs.size (λ_=>none):=⟨PySem.W.emptyDict, #[],_,e1,rfl,(λe he=>Ji he (by simp)),λ_=>rfl⟩;have I1:=I.laid (a:=s.heap.objs.size) (o:=.own (s.heap.objs.size+1)) (h':=s.heap.push PySem.W.emptyDict) (t':=s.toks) (λb u q=>Heap.get?_push_of_some _ q) (Jb _) ⟨_,e1⟩;refine I1.laid (a:=s.heap.objs.size+1) (o:=.ins C s.heap.objs.size []) (t':=s.toks) (λb u q=>Heap.get?_push_of_some _ q) (Nat.le_of_eq (Heap.size_push _ _)) ?_;have ne:s.heap.objs.size≠s.heap.objs.size+1:=Jm (JB _);refine⟨by rw[zl ne,zj],Nat.zero_le _,ne,e2,λ_=>none,(Heap.Ns1.of_empty e3).at λo q=>Heap.get?_push_of_some _ q,λ_=>True.intro,λy hy=>Ji rfl hy⟩
theorem zkB {prog:Program}{w:World}{env:Env}{e:Expr}{f:Str}{pos:Pos}{s:Shared}{Q:QC}(hb:attributeBase e f env (eval e env)=eval e env)
  (h:wpAny (model prog w) A (eval e env) (λo s₁=>wpAny (model prog w) A (getAttr o f true) Q E s₁) E s):wpAny (model prog w) A (eval (.Attribute e f pos) env) Q E s:=
 Attribute_any_ h (by rw[arm_eval_Attribute,hb])
end
def tFld (K:QA)(ta:TE)(f:Str):TE:=fun σ H Q=>ta σ H λx H1=>∃a C dx fs v,x=.ref a/\H1 a=some (.ins C dx fs)/\Cls K C/\zR K C f/\fs.lookup f=some v/\Q v H1
def sFld (K:QA)(ta tv:TE)(f:Str):TS:=λD σ H=>tv σ H λy H1=>ta σ H1 λx H2=>∃a C dx fs,x=.ref a/\H2 a=some (.ins C dx fs)/\Cls K C/\zR K C f/\fs.length < 1000/\
 D.nx σ (upd H2 a (.ins C dx (putF f y fs)))
section
variable {X:Cx}{o e value:Expr}{f:Str}{pos pos' tpos:Pos}{ta tv:TE}
theorem zaY (he:PE X e ta)(hb:attributeBase e f X.env (eval e X.env)=eval e X.env):PE X (.Attribute e f pos) (tFld X.K ta f):=by intro pins s σ H Q I h;refine zkB hb (thn (he pins s σ H _ I h) λu s1 ⟨x,H1,I1,rx,a,C,dx,fs,v,ex,ea,c,n,l,q⟩=>?_);subst ex;obtain rfl:u=Value.ref a:=rx;exact zj9 I1 ea c n l λu' s2 I2 ru=>⟨v,H1,I2,ru,q⟩
theorem zhJ (ha:PE X o ta)(hv:PE X value tv)(hs:swapsWith value (some (.Attribute o f pos')) pos.line X.env=pure false):PS X (.Assign [.Attribute o f pos'] value pos) (sFld X.K ta tv f):=by intro pins s σ H D I h;refine plainObj_wpAny_Assign_Attribute (thn (hv pins s σ H _ I h) λu s1 ⟨y,H1,I1,ry,q⟩=>thn (ha pins s1 σ H1 _ I1 q) λov s2 ⟨x,H2,I2,rx,a,C,dx,fs,ex,ea,c,n,l,q2⟩=>?_) hs;subst ex;obtain rfl:ov=Value.ref a:=rx;exact zjP I2 ea c n l ry λs3 I3=>⟨σ,_,I3,q2⟩
theorem zpF {pl:Sem Bool}{m:Str}{apos:Pos}{args:List Expr}{pins:QE}{s:Shared}{σ:St}{H:Hp}{Q:QC}{te:TE}(he:PE X e te)(I:Inv X pins σ H s)
  (h:te σ H λx H1=>∃a C dx fs g,x=.ref a/\H1 a=some (.ins C dx fs)/\Cls X.K C/\Meth X.K C m g/\fs.lookup m=none/\
   ∀s1,Inv X pins σ H1 s1->wpAny (model X.prog X.w) X.A (callWith pos (.ref g) [.ref a] (backTo pos (starEach args X.env)) (backToKw pos (keywordEach [] X.env))) Q X.xe s1)
  (ht:eval (.Call (.Attribute e m apos) args [] pos) X.env=(do
   let ov<-eval e X.env
   standAt apos.atName
   let (f,first) <-holding [ov] (getMethod ov m pl)
   callWith pos f first (backTo pos (starEach args X.env)) (backToKw pos (keywordEach [] X.env)))):
  wpAny (model X.prog X.w) X.A (eval (.Call (.Attribute e m apos) args [] pos) X.env) Q X.xe s:=by
 refine PySem.W.methodCall_KW (pl:=pl) (thn (he pins s σ H _ I h) λu s1 ⟨x,H1,I1,rx,a,C,dx,fs,g,ex,ea,c,k,l,q⟩=>?_) ht;subst ex;obtain rfl:u=Value.ref a:=rx;exact zdW I1 ea c k l (q s1 I1)
end
section
variable {X:Cx}{pins:QE}{σ:St}{H:Hp}{s:Shared}{A:Around}{E:QC}{Q:QC}{c:Value}{b:Bool}
inductive TyOf (K:QA) (H:Hp):V->Value->Prop where
 | non:TyOf K H .non (.type "NoneType")
 | bl (x:Bool):TyOf K H (.bl x) (.type "bool")
 | int (i:Int):TyOf K H (.int i) (.type "int")
 | str (x:Str):TyOf K H (.str x) (.type "str")
 | flt (x:UInt64):TyOf K H (.flt x) (.type "float")
 | lst {a:Addr} {xs:QQ} (e:H a=some (.lst xs)):TyOf K H (.ref a) (.type "list")
 | frz {a:Addr} {o:Obj} {xs:QQ} (e:H a=some (.frz o (.lst xs))):TyOf K H (.ref a) (.type "list")
 | tup {a:Addr} {xs:QQ} (e:H a=some (.tup xs)):TyOf K H (.ref a) (.type "tuple")
 | dK {a:Addr} {kvs:QG} (e:H a=some (.dK kvs)):TyOf K H (.ref a) (.type "dict")
 | dT {a:Addr} {kvs:List (List Key ×V)} (e:H a=some (.dT kvs)):TyOf K H (.ref a) (.type "dict")
 | ins {a C dx:Addr} {fs:List (Str ×V)} (e:H a=some (.ins C dx fs)) (cl:Cls K C) (ha:PySem.W.findIn K (.ref C) "__class__" =some (some (.builtin "object.__class__")))
   (hn:PySem.W.specialIn K (.builtin "object.__class__") "__get__" =some (some (.builtin "getset_descriptor.__get__"))) (htk:PySem.W.takesIn K (.builtin "object.__class__")=some true)
   (hm:PySem.W.mroIn K C (.type "object")=some true):TyOf K H (.ref a) (.ref C)
theorem zlE {x:V}{u t:Value}(I:Inv X pins σ H s)(rx:RelV x u)(ty:TyOf X.K H x t)(e:PySem.W.kitOne X.K t c=some b)(h:∀tk,Q (.bool b) {s with toks:=tk}):
  wpAny (model X.prog X.w) A (call (.builtin "isinstance") [u,c]) Q E s:=by
 cases ty with
 | non=>cases (show u=Value.none from rx);exact PySem.W.kia_one PySem.W.kitx_none I.kIn True.intro e (λz=>nomatch z) h
 | bl y=>cases (show u=Value.bool y from rx);exact PySem.W.kia_one PySem.W.kitx_bool I.kIn True.intro e (λz=>nomatch z) h
 | int i=>obtain⟨t,q⟩:=(show∃t,u=Value.int i t from rx);cases q;exact PySem.W.kia_one PySem.W.kitx_int I.kIn True.intro e (λz=>nomatch z) h
 | str y=>obtain⟨t,q⟩:=(show∃t,u=Value.str y t from rx);cases q;exact PySem.W.kia_one PySem.W.kitx_str I.kIn True.intro e (λz=>nomatch z) h
 | flt y=>obtain⟨t,q⟩:=(show∃t,u=Value.float y t from rx);cases q;exact PySem.W.kia_one PySem.W.kitx_float I.kIn True.intro e (λz=>nomatch z) h
 | @lst a xs ea=>cases (show u=Value.ref a from rx);obtain⟨_,_,n,_,h1⟩:=(show zZ X.prog X.w H s.heap a (.lst xs) from I.hok a _ ea);exact PySem.W.kia_one PySem.W.kitx_list I.kIn ⟨_,h1,rfl⟩ e (λz=>nomatch z) h
 | @frz a ob xs ea=>cases (show u=Value.ref a from rx);obtain⟨_,_,_,n,_,h1⟩:=(show zZ X.prog X.w H s.heap a (.frz ob (.lst xs)) from I.hok a _ ea);exact PySem.W.kia_one PySem.W.kitx_list I.kIn ⟨_,h1,rfl⟩ e (λz=>nomatch z) h
 | @tup a xs ea=>cases (show u=Value.ref a from rx);obtain⟨_,_,_,p⟩:=(show zZ X.prog X.w H s.heap a (.tup xs) from I.hok a _ ea);obtain⟨o,h1,h2,_⟩:=p;exact PySem.W.kia_one PySem.W.kitx_tuple I.kIn ⟨o,h1,h2⟩ e (λz=>nomatch z) h
 | @dK a kvs ea=>cases (show u=Value.ref a from rx);obtain⟨_,_,vs,_,p⟩:=(show zZ X.prog X.w H s.heap a (.dK kvs) from I.hok a _ ea);obtain⟨o,es,ep,h1,h2,_⟩:=p;exact PySem.W.kia_one PySem.W.kitx_dict I.kIn ⟨o,h1,h2.1⟩ e (λz=>nomatch z) h
 | @dT a kvs ea=>cases (show u=Value.ref a from rx);obtain⟨_,_,xs,_,o,es,ep,h1,h2,_⟩:=(show zZ X.prog X.w H s.heap a (.dT kvs) from I.hok a _ ea);exact PySem.W.kia_one PySem.W.kitx_dict I.kIn ⟨o,h1,h2.1⟩ e (λz=>nomatch z) h
 | @ins a C dx fs ea cl ha hn htk hm=>cases (show u=Value.ref a from rx);obtain⟨mA,O,_⟩:=zey I.hok ea;obtain⟨od,J,_⟩:=O.look;exact PySem.W.kia_one (PySem.W.kitx_own (cl.get _) cl.hd ha hn htk hm) I.kIn J e (λz=>nomatch z) h
end
end L2
namespace L2
open PySem PySem.Spec PyProof.Rows
structure Room (k:Nat)(A:Around):Prop where
 hd:A.handled=none
 dp:A.depth+3 * k+5 < recursionLimit
 un:A.units+16 * k+200 < cLine
theorem Room.mono {j k:Nat}{A:Around}(r:Room k A)(h:j<=k):Room j A:=⟨r.hd,by have:=r.dp;omega,by have:=r.un;omega⟩
theorem Room.deeper {k:Nat}{A:Around}(r:Room (k+1) A)(env:Env):Room k (A.deeper env):=
 ⟨r.hd,by have:=r.dp;show A.depth+1+3 * k+5 < _;omega,by have:=r.un;show A.units+3+16 * k+200 < _;omega⟩
theorem zj4 {A:Around}{C:Addr}{us:QN}{kw:QK}:(A.under (.builtin "type.__call__" ⟨.ref C::us,kw⟩)).depth=A.depth+1:=by
 first | rfl | simp[Around.under,Code.weight,Code.isCreation,Code.isGuard,Code.isCaller,Code.frames,Code.isFrame,guardIds]
theorem zjO {A:Around}{C:Addr}{us:QN}{kw:QK}:(A.under (.builtin "type.__call__" ⟨.ref C::us,kw⟩)).units=A.units+1:=by
 first | rfl | simp[Around.under,Code.cUnits,Code.frames,Code.isFrame]
theorem Room.make {k:Nat}{A:Around}(r:Room (k+1) A)(C:Addr)(us:QN)(kw:QK):Room k (A.under (.builtin "type.__call__" ⟨.ref C::us,kw⟩)):=
 ⟨r.hd,by have:=r.dp;rw[zj4];omega,by have:=r.un;rw[zjO];omega⟩
theorem Room.depth {k:Nat}{A:Around}(r:Room k A):A.depth < recursionLimit:=by have:=r.dp;omega
theorem Room.units {k:Nat}{A:Around}(r:Room k A):A.units+64 < cLine:=by have:=r.un;omega
def tNil:TA:=λ_ H Q=>Q [] H
def zrf (ta:TE)(tr:TA):TA:=fun σ H Q=>ta σ H λx H1=>tr σ H1 λxs H2=>Q (x::xs) H2
section
variable {X:Cx}{e:Expr}{es:List Expr}{te:TE}{t:TA}{pos:Pos}
theorem zc:PA X [] tNil:=λ_ _ _ _ H Q I h=>Calls.spliced_nil ⟨[],H,I,.nil,h⟩
theorem za (ha:PE X e te)(hr:PA X es t)(hs:starEach (e::es) X.env=(false,eval e X.env)::starEach es X.env:=by rfl):PA X (e::es) (zrf te t):=by intro pos pins s σ H Q I h;rw[hs];show wpAny _ _ (spliced ((false,eval e X.env)::backTo pos (starEach es X.env))) _ _ s;refine Calls.spliced_cons (thn (ha pins s σ H _ I h) λu s1 ⟨x,H1,I1,r1,q1⟩=>?_);exact thn (hr pos pins s1 σ H1 _ I1 q1) λus s2 ⟨xs,H2,I2,r2,q2⟩=>⟨x::xs,H2,I2,.cons r1 r2,q2⟩
def tTup (t:TA):TE:=fun σ H Q=>t σ H λxs H1=>xs.length<=sizeLine/\∀p,H1 p=none->Q (.ref p) (upd H1 p (.tup xs))
def tLst (t:TA):TE:=fun σ H Q=>t σ H λxs H1=>xs.length<=sizeLine/\∀p,H1 p=none->Q (.ref p) (upd H1 p (.lst xs))
theorem zau {x1}(h:PA X es t):PE X (.Tuple es x1 pos) (tTup t):=by intro pins s σ H Q I hq;refine wpAny_Tuple_spliced (thn (h pos pins s σ H _ I hq) λus s1 ⟨xs,H1,I1,r,z,q⟩=>⟨by rw[<-r.length];exact z,?_⟩);have hf:H1 s1.heap.objs.size=none:=I1.hok.fresh (Jb _);refine⟨.ref s1.heap.objs.size,upd H1 s1.heap.objs.size (.tup xs),I1.laid (t':=s1.toks) (λb u e=>Heap.get?_push_of_some _ e) (Jb _) ?_,rfl,q _ hf⟩;exact⟨z,us,r,⟨_,Heap.get?_push_size _ rfl,rfl,_,rfl⟩⟩
theorem zag (h:PA X es t):PE X (.List es pos) (tLst t):=by intro pins s σ H Q I hq;refine wpAny_List_spliced (thn (h pos pins s σ H _ I hq) λus s1 ⟨xs,H1,I1,r,z,q⟩=>⟨by rw[<-r.length];exact z,?_⟩);have hf:H1 s1.heap.objs.size=none:=I1.hok.fresh (Jb _);refine⟨.ref s1.heap.objs.size,upd H1 s1.heap.objs.size (.lst xs),I1.laid (t':=s1.toks) (λb u e=>Heap.get?_push_of_some _ e) (Jb _) ?_,rfl,q _ hf⟩;exact⟨z,us,0,r,Heap.get?_push_size _ rfl⟩
end
abbrev Sp:=List V->Hp->VK->XK->Prop
abbrev CXT:=List Env->Hp->Shared->XK->Value->Shared->Prop
structure Env0 (P:Program)(w:World)(K:QA)(mg:QB)(base:Heap)(A:Around)(outer:List Env)(s:Shared)(H:Hp):Prop where
 frames:A.frames=some outer
 mod:Mod K mg base
 bs:∀b o,base.get? b=some o->s.heap.get? b=some o/\H b=none
 bsz:base.objs.size<=s.heap.objs.size
 funs:s.heap.FunFrames base outer
 frf:∀b∈frs outer,H b=none
 hok:HOk P w H s.heap
 bare:AllBare s.gens
def CE (outer:List Env)(P:Program)(w:World)(H:Hp)(s:Shared)(Q:VK)(u:Value)(s':Shared):Prop:=
 ∃v H',s'.os=s.os/\AllBare s'.gens/\Un (frs outer) [] H H' s.heap s'.heap/\HOk P w H' s'.heap/\RelV v u/\Q v H'
def CR (CX:CXT)(outer:List Env)(P:Program)(w:World)(H:Hp)(s:Shared)(Q:VK)(E:XK)(r:Result)(s':Shared):Prop:=
 match r with
 | .ok (.ret u)=>CE outer P w H s Q u s'
 | .ok _=>False
 | .error e=>CX outer H s E e s'
structure FnOk (P:Program)(w:World)(K:QA)(mg:QB)(base:Heap)(CX:CXT)(k:Nat)(f:Addr)(fd:FuncData)(ps:QP)(sp:Sp):Prop where
 len:∀vs H Q E,sp vs H Q E->vs.length=ps.length
 run:∀(A:Around) (outer:List Env) (s:Shared) (H:Hp) (args:Args) (us:QN) (vs:QQ) (Q:VK) (E:XK),Room k A->Env0 P w K mg base A outer s H->BindsTo s fd args (ps.zip us)->Vals vs us->sp vs H Q E->
  codeAny (model P w) A (.call (.ref f) args) (CR CX outer P w H s Q E) s
theorem FnOk.mono {P:Program}{w:World}{K:QA}{mg:QB}{base:Heap}{CX:CXT}{j k:Nat}{f:Addr}{fd:FuncData}{ps:QP}{sp:Sp}(F:FnOk P w K mg base CX j f fd ps sp)(h:j<=k):
  FnOk P w K mg base CX k f fd ps sp:=⟨F.len,λA outer s H args us vs Q E hr=>F.run A outer s H args us vs Q E (hr.mono h)⟩
theorem FnOk.imp {P:Program}{w:World}{K:QA}{mg:QB}{base:Heap}{CX:CXT}{k:Nat}{f:Addr}{fd:FuncData}{ps:QP}{sp sp':Sp}(F:FnOk P w K mg base CX k f fd ps sp)
  (h:∀vs H Q E,sp' vs H Q E->sp vs H Q E):FnOk P w K mg base CX k f fd ps sp':=
 ⟨λvs H Q E q=>F.len vs H Q E (h _ _ _ _ q),λA outer s H args us vs Q E hr he hb hv hs=>F.run A outer s H args us vs Q E hr he hb hv (h _ _ _ _ hs)⟩
theorem Env0.make {P:Program}{w:World}{K:QA}{mg:QB}{base:Heap}{A:Around}{outer:List Env}{s:Shared}{H:Hp}(e:Env0 P w K mg base A outer s H)(C:Addr)(us:QN)(kw:QK):
  Env0 P w K mg base (A.under (.builtin "type.__call__" ⟨.ref C::us,kw⟩)) outer s H:=⟨by first | exact e.frames | (simpa [Around.under,Code.envs,Code.isFrame,pushEnvs] using e.frames),e.mod,e.bs,e.bsz,e.funs,e.frf,e.hok,e.bare⟩
section
variable {X:Cx}{pins:QE}{σ:St}{H:Hp}{s s':Shared}
theorem Inv.env0 (I:Inv X pins σ H s):Env0 X.prog X.w X.K X.mg X.base X.A X.stack s H:=
 ⟨I.ok.frames,I.ok.mod,I.bs,Jn I.ok.bsz I.sz,I.stack,I.stkFree,I.hok,I.bare⟩
theorem Inv.after {Q:VK}{u:Value}(I:Inv X pins σ H s)(h:CE X.stack X.prog X.w H s Q u s'):EP X pins σ Q u s':=by obtain⟨v,H',os,bare,un,hok,r,q⟩:=h;obtain⟨hh,g,d,t,os'⟩:=s';obtain rfl:os'=s.os:=os;exact⟨v,H',I.call (h':=hh) (g':=g) (d':=d) (t':=t) (ch:=[]) un hok bare (λb z=>Ji z (by simp)),r,q⟩
end
def zkL (sp:Sp)(dvs:QQ)(E:XK)(t:TA):TE:=fun σ H Q=>t σ H λvs H1=>sp (vs++dvs) H1 Q E
def zkR (C:Addr)(m:Str)(sp:Sp)(dvs:QQ)(E:XK)(ta:TE)(t:TA):TE:=fun σ H Q=>ta σ H λx H1=>∃a dx fs,x=.ref a/\H1 a=some (.ins C dx fs)/\fs.lookup m=none/\
 t σ H1 λvs H2=>sp (x::(vs++dvs)) H2 Q E
def zkJ (C:Addr)(sp:Sp)(dvs:QQ)(E:XK)(t:TA):TE:=fun σ H Q=>t σ H λvs H1=>∀x dx,H1 x=none->H1 dx=none->dx≠x->
 sp (.ref x::(vs++dvs)) (upd (upd H1 dx (.own x)) x (.ins C dx [])) (λv H2=>v=.non/\Q (.ref x) H2) E
def Binds (K:QA)(fd:FuncData)(ps:QP)(ds:QN):Prop:=
 ∀(s:Shared) (us:QN),K.In s.heap->(us++ds).length=ps.length->BindsTo s fd ⟨us,[]⟩ (ps.zip (us++ds))
theorem Binds.all {K:QA}{fd:FuncData}{ps:QP}(h:∀us:List Value,us.length=ps.length->bindArgs fd ⟨us,[]⟩=pure (ps.zip us)):Binds K fd ps []:=λs us _ hl=>by rw[List.append_nil] at hl ⊢;exact .of_eq (h us hl)
def zbC (CX:CXT)(X:Cx)(E:XK):Prop:=∀(pins:QE) (σ:St) (H:Hp) (s:Shared) (e:Value) (s':Shared),Inv X pins σ H s->CX X.stack H s E e s'->X.xe e s'
section
variable {X:Cx}{CX:CXT}{k:Nat}{f C:Addr}{fd:FuncData}{ps:QP}{sp:Sp}{dvs:QQ}{ds:QN}{E:XK}{x m:Str}{p pos apos:Pos}{e o:Expr}{es:List Expr}{ta:TE}{t:TA}
theorem zik {pins:QE}{σ:St}{H:Hp}{s:Shared}{Q:VK}{us:QN}{vs:QQ}(F:FnOk X.prog X.w X.K X.mg X.base CX k f fd ps sp)(hr:Room k X.A)(hb:Binds X.K fd ps ds)(hd:Vals dvs ds)(hx:zbC CX X E)
  (I:Inv X pins σ H s) (r:Vals vs us) (h:sp (vs++dvs) H Q E):wpAny (model X.prog X.w) X.A (call (.ref f) us) (EP X pins σ Q) X.xe s:=by
 have r2:Vals (vs++dvs) (us++ds):=r.append hd;have hl:(us++ds).length=ps.length:=by rw[<-r2.length];exact F.len _ _ _ _ h
 refine wpAny_call (codeAny_mono (F.run X.A X.stack s H ⟨us,[]⟩ (us++ds) (vs++dvs) Q E hr I.env0 (hb s us I.kIn hl) r2 h) λr s' hq=>?_);cases r with
 | error e=>exact hx pins σ H s e s' I hq
 | ok fl=>
  cases fl with
  | ret u=>exact I.after hq
  | next=>exact False.elim hq
  | brk=>exact False.elim hq
  | cont=>exact False.elim hq
theorem zku (F:FnOk X.prog X.w X.K X.mg X.base CX k f fd ps sp)(hr:Room k X.A)(hg:Gl X x)(hm:X.mg x=some (.ref f))(hk:PySem.W.keepIn X.K (.ref f)=true)(hb:Binds X.K fd ps ds)(hd:Vals dvs ds)(hx:zbC CX X E)
  (ha:PA X (e::es) t) (hdb:(x==("__debug__" :Str))=false:=by decide) (he:starEach (e::es) X.env=(false,eval e X.env)::starEach es X.env:=by rfl) (hpl:(backTo pos (starEach es X.env)).any (·.1)=false:=by rfl):
  PE X (.Call (.Name x p) (e::es) [] pos) (zkL sp dvs E t):=by
 intro pins s σ H Q I h;refine wpAny_Call_Name_kw (zb2 I hg hm ?_ hdb);refine PySem.W.callWith_K (h₀:=X.base) I.ok.mod.kin hk (thn (ha pos pins s σ H _ I h) λus s1 ⟨vs,H1,I1,r,q⟩=>⟨I1.kIn,?_⟩) he hpl;exact zik F hr hb hd hx I1 r q
theorem zoB {pl:Sem Bool}(he:PE X o ta)(c:Cls X.K C)(hm:Meth X.K C m f)(F:FnOk X.prog X.w X.K X.mg X.base CX k f fd ps sp)(hr:Room k X.A)(hb:Binds X.K fd ps ds)(hd:Vals dvs ds)(hx:zbC CX X E)(ha:PA X (e::es) t)
  (hst:starEach (e::es) X.env=(false,eval e X.env)::starEach es X.env:=by rfl) (hpl:(backTo pos (starEach es X.env)).any (·.1)=false:=by rfl)
  (ht:eval (.Call (.Attribute o m apos) (e::es) [] pos) X.env=(do
   let ov<-eval o X.env
   standAt apos.atName
   let (f,first) <-holding [ov] (getMethod ov m pl)
   callWith pos f first (backTo pos (starEach (e::es) X.env)) (backToKw pos (keywordEach [] X.env))):=by rfl):
  PE X (.Call (.Attribute o m apos) (e::es) [] pos) (zkR C m sp dvs E ta t):=by
 intro pins s σ H Q I h;refine PySem.W.methodCall_KW (pl:=pl) (thn (he pins s σ H _ I h) λu s1 ⟨x,H1,I1,rx,a,dx,fs,ex,ea,l,q⟩=>?_) ht;subst ex;obtain rfl:u=Value.ref a:=rx;refine zdW I1 ea c hm l ?_;refine PySem.W.callWith_K (first:=[.ref a]) (h₀:=X.base) I.ok.mod.kin hm.kp (thn (ha pos pins s1 σ H1 _ I1 q) λus s2 ⟨vs,H2,I2,r,q2⟩=>⟨I2.kIn,?_⟩) hst hpl;exact zik (us:=.ref a::us) (vs:=.ref a::vs) F hr hb hd hx I2 (.cons rfl r) q2
theorem zm2 {pl:Sem Bool}(he:PE X o ta)(c:Cls X.K C)(hm:Meth X.K C m f)(F:FnOk X.prog X.w X.K X.mg X.base CX k f fd ps sp)(hr:Room k X.A)(hb:Binds X.K fd ps ds)(hd:Vals dvs ds)(hx:zbC CX X E)
  (ht:eval (.Call (.Attribute o m apos) [] [] pos) X.env=(do
   let ov<-eval o X.env
   standAt apos.atName
   let (f,first) <-holding [ov] (getMethod ov m pl)
   callWith pos f first (backTo pos (starEach [] X.env)) (backToKw pos (keywordEach [] X.env))):=by rfl):
  PE X (.Call (.Attribute o m apos) [] [] pos) (zkR C m sp dvs E ta tNil):=by
 intro pins s σ H Q I h;refine PySem.W.methodCall_KW (pl:=pl) (thn (he pins s σ H _ I h) λu s1 ⟨x,H1,I1,rx,a,dx,fs,ex,ea,l,q⟩=>?_) ht;subst ex;obtain rfl:u=Value.ref a:=rx;refine zdW I1 ea c hm l ?_;exact PySem.W.callWith_K0 (first:=[.ref a]) I1.kIn hm.kp (zik (us:=[.ref a]) (vs:=[.ref a]) F hr hb hd hx I1 (.cons rfl .nil) q)
structure Mk (K:QA)(C f:Addr):Prop where
 makes:PySem.W.makesIn K C=true
 init:PySem.W.findIn K (.ref C) "__init__" =some (some (.ref f))
 fn:PySem.W.isFn K (.ref f)=true
 kp:PySem.W.keepIn K (.ref C)=true
theorem ziJ {pins:QE}{σ:St}{H:Hp}{s:Shared}{Q:VK}{us:QN}{vs:QQ}(M:Mk X.K C f)(F:FnOk X.prog X.w X.K X.mg X.base CX k f fd ps sp)(hr:Room (k+1) X.A)(hb:Binds X.K fd ps ds)(hd:Vals dvs ds)
  (hx:zbC CX X E) (I:Inv X pins σ H s) (r:Vals vs us)
  (h:∀x dx,H x=none->H dx=none->dx≠x->sp (.ref x::(vs++dvs)) (upd (upd H dx (.own x)) x (.ins C dx [])) (λv H2=>v=.non/\Q (.ref x) H2) E):
  wpAny (model X.prog X.w) X.A (call (.ref C) us) (EP X pins σ Q) X.xe s:=by
 have hq:=h (s.heap.objs.size+1) s.heap.objs.size (I.hok.fresh (Nat.le_succ _)) (I.hok.fresh (Jb _)) (Jm (JB _));have I2:=Inv.made (C:=C) I;have r2:Vals (V.ref (s.heap.objs.size+1)::(vs++dvs)) (Value.ref (s.heap.objs.size+1)::(us++ds)):=.cons rfl (r.append hd);have hl:(Value.ref (s.heap.objs.size+1)::us++ds).length=ps.length:=by have e:=r2.length;rw[F.len _ _ _ _ hq] at e;exact e.symm
 refine wpAny_call (zmZ (f:=f) I.kIn M.makes M.init (beq_iff_eq.mp M.fn) (codeAny_mono (F.run _ X.stack _ _ ⟨Value.ref (s.heap.objs.size+1)::us,[]⟩ (Value.ref (s.heap.objs.size+1)::(us++ds)) _ _ E (hr.make C us [])
  (I2.env0.make C us []) (hb _ (Value.ref (s.heap.objs.size+1)::us) I2.kIn hl) r2 hq) λr s' hq'=>?_))
 cases r with
 | error e=>exact hx pins σ _ _ e s' I2 hq'
 | ok fl=>
  cases fl with
  | ret u=>obtain⟨v,H',I3,rv,ev,q3⟩:=I2.after hq';subst ev;exact⟨rv,⟨V.ref (s.heap.objs.size+1),H',I3,rfl,q3⟩⟩
  | next=>exact False.elim hq'
  | brk=>exact False.elim hq'
  | cont=>exact False.elim hq'
theorem zpi (M:Mk X.K C f)(F:FnOk X.prog X.w X.K X.mg X.base CX k f fd ps sp)(hr:Room (k+1) X.A)(hg:Gl X x)(hm:X.mg x=some (.ref C))(hb:Binds X.K fd ps ds)(hd:Vals dvs ds)(hx:zbC CX X E)
  (ha:PA X (e::es) t) (hdb:(x==("__debug__" :Str))=false:=by decide) (he:starEach (e::es) X.env=(false,eval e X.env)::starEach es X.env:=by rfl) (hpl:(backTo pos (starEach es X.env)).any (·.1)=false:=by rfl):
  PE X (.Call (.Name x p) (e::es) [] pos) (zkJ C sp dvs E t):=by
 intro pins s σ H Q I h;refine wpAny_Call_Name_kw (zb2 I hg hm ?_ hdb);refine PySem.W.callWith_K (h₀:=X.base) I.ok.mod.kin M.kp (thn (ha pos pins s σ H _ I h) λus s1 ⟨vs,H1,I1,r,q⟩=>⟨I1.kIn,?_⟩) he hpl;exact ziJ M F hr hb hd hx I1 r q
theorem zny (M:Mk X.K C f)(F:FnOk X.prog X.w X.K X.mg X.base CX k f fd ps sp)(hr:Room (k+1) X.A)(hg:Gl X x)(hm:X.mg x=some (.ref C))(hb:Binds X.K fd ps ds)(hd:Vals dvs ds)(hx:zbC CX X E)
  (hdb:(x==("__debug__" :Str))=false:=by decide):PE X (.Call (.Name x p) [] [] pos) (zkJ C sp dvs E tNil):=by
 intro pins s σ H Q I h;refine wpAny_Call_Name_kw (zb2 I hg hm ?_ hdb);exact PySem.W.callWith_K0 I.kIn M.kp (ziJ (us:=[]) M F hr hb hd hx I .nil h)
end
section
variable {X:Cx}{CX:CXT}{k:Nat}{f C:Addr}{fd:FuncData}{ps ks:QP}{sp:Sp}{E:XK}{x m:Str}{p pos apos kpos:Pos}{e o:Expr}{es:List Expr}{kws:List Keyword}{te ta:TE}{t tk:TA}{nm:Option Str}
structure zrQ (K:QA)(fd:FuncData)(ps ks:QP)(g:List Value->List Value->List Value)(gV:List V->List V->List V):Prop where
 to:∀(s:Shared) (us ws:QN),K.In s.heap->(g us ws).length=ps.length->BindsTo s fd ⟨us,ks.zip ws⟩ (ps.zip (g us ws))
 rel:∀{vs:QQ} {us:QN} {zs:QQ} {ws:QN},Vals vs us->Vals zs ws->Vals (gV vs zs) (g us ws)
variable {g:List Value->List Value->List Value}{gV:List V->List V->List V}
end
structure zr (N P:QP)(sc:Scope):Prop where
 kind:sc.kind=.function
 co:sc.isCoroutine=false
 gen:sc.isGenerator=false
 nd:N.Nodup
 pre:N.take P.length=P
 par:∀x∈P,sc.names.lookup x=some .local\/sc.names.lookup x=some .cell
 nofree:∀y∈sc.names,y.2≠ .free
theorem fsc {N P:QP}{sc:Scope}(h:sc.kind=.function/\sc.isCoroutine=false/\sc.isGenerator=false/\N.Nodup/\N.take P.length=P/\(∀x∈P,sc.names.lookup x=some .local\/sc.names.lookup x=some .cell)/\∀y∈sc.names,y.2≠ .free):zr N P sc:=⟨h.1,h.2.1,h.2.2.1,h.2.2.2.1,h.2.2.2.2.1,h.2.2.2.2.2.1,h.2.2.2.2.2.2⟩
theorem zhC {kindOf:Str->Option NameKind}{x:Str}:∀{binds:QK} {m:QB},(∀v,(x,v)∉binds)->bindL kindOf binds m x=m x
 | [],_,_=>rfl
 | (n,v)::r,m,h=>by
  unfold bindL;rw[zhC λw hw=>h w (Jl _ hw)];split
  ·have:x≠n:=by rintro rfl;exact h v List.mem_cons_self
   simp[this]
  ·rfl
theorem zhb {kindOf:Str->Option NameKind}{x:Str}:∀{binds:QK} {m:QB},(∀v,(x,v)∉binds)->bindC kindOf binds m x=m x
 | [],_,_=>rfl
 | (n,v)::r,m,h=>by
  unfold bindC;rw[zhb λw hw=>h w (Jl _ hw)];split
  ·rfl
  ·have:x≠n:=by rintro rfl;exact h v List.mem_cons_self
   simp[this]
theorem zht {kindOf:Str->Option NameKind}{x:Str}{v:Value}:∀{P:QP} {vs:QN} {i:Nat} {m:QB},P.Nodup->P[i]? =some x->vs[i]? =some v->kindOf x=some .local->
  bindL kindOf (P.zip vs) m x=some v
 | [],_,_,_,_,h,_,_=>by simp at h
 | _::_,[],_,_,_,_,h,_=>by simp at h
 | p::P,w::vs,0,m,nd,h1,h2,hk=>by simp at h1 h2;subst h1;subst h2;show bindL kindOf ((p,w)::P.zip vs) m p=_;unfold bindL;rw[zhC λv hv=>(List.nodup_cons.mp nd).1 (List.of_mem_zip hv).1,if_pos hk];simp
 | p::P,w::vs,i+1,m,nd,h1,h2,hk=>by show bindL kindOf ((p,w)::P.zip vs) m x=_;unfold bindL;exact zht (i:=i) (List.nodup_cons.mp nd).2 (by simpa using h1) (by simpa using h2) hk
theorem zhl {kindOf:Str->Option NameKind}{x:Str}{v:Value}:∀{P:QP} {vs:QN} {i:Nat} {m:QB},P.Nodup->P[i]? =some x->vs[i]? =some v->kindOf x≠some .local->
  bindC kindOf (P.zip vs) m x=some v
 | [],_,_,_,_,h,_,_=>by simp at h
 | _::_,[],_,_,_,_,h,_=>by simp at h
 | p::P,w::vs,0,m,nd,h1,h2,hk=>by simp at h1 h2;subst h1;subst h2;show bindC kindOf ((p,w)::P.zip vs) m p=_;unfold bindC;rw[zhb λv hv=>(List.nodup_cons.mp nd).1 (List.of_mem_zip hv).1,if_neg hk];simp
 | p::P,w::vs,i+1,m,nd,h1,h2,hk=>by show bindC kindOf ((p,w)::P.zip vs) m x=_;unfold bindC;exact zhl (i:=i) (List.nodup_cons.mp nd).2 (by simpa using h1) (by simpa using h2) hk
noncomputable def start (N:QP)(vs:QQ):St:=vs.map some++List.replicate (N.length - vs.length) none
noncomputable def cxOf (CX:CXT)(P:Program)(w:World)(K:QA)(mg:QB)(base:Heap)(N:QP)(qual:Str)(scope:Scope)(f:Addr)(cd:Value)(A:Around)(outer:List Env)(s:Shared)(H:Hp)(E:XK):Cx where
 prog:=P
 w:=w
 K:=K
 mg:=mg
 base:=base
 A:=A.deeper (envOfC qual scope s.heap.objs.size f cd)
 N:=N
 s₀:=s
 H₀:=H
 env:=envOfC qual scope s.heap.objs.size f cd
 outer:=outer
 stack:=envOfC qual scope s.heap.objs.size f cd::outer
 ex:=[]
 calm:=true
 fn:=λ_=>true
 pn:=[]
 xe:=λe s'=>wpAny (model P w) (A.deeper (envOfC qual scope s.heap.objs.size f cd)) (leaving (envOfC qual scope s.heap.objs.size f cd) e) (λ_ s''=>CX outer H s E e s'') (λe' s''=>CX outer H s E e' s'') s'
theorem zjj {sc:Scope}{n:Nat}{x:Str}(h:sc.names.lookup x=some .cell):∃c,(cellsFrom n sc.names []).lookup x=some c:=by have q:=PySem.W.cellsFrom_some sc.names n [] (.inl h);exact Option.isSome_iff_exists.mp q
theorem zls {CX:CXT}{P:Program}{w:World}{K:QA}{mg:QB}{base:Heap}{N ps:QP}{qual:Str}{scope:Scope}{f:Addr}{cd:Value}{A:Around}{outer:List Env}{s s1:Shared}{H:Hp}{E:XK}{us:QN}{vs:QQ}
  (S:zr N ps scope) (hd:A.handled=none) (e0:Env0 P w K mg base A outer s H) (hl:vs.length=ps.length) (r:Vals vs us)
  (x:InCallC s s.heap.objs.size (bindL (envOfC qual scope s.heap.objs.size f cd).kindOf (ps.zip us) λ_=>none) (cellsFrom (s.heap.objs.size+1) scope.names []) (bindC (envOfC qual scope s.heap.objs.size f cd).kindOf (ps.zip us) λ_=>none) s1):
  Inv (cxOf CX P w K mg base N qual scope f cd A outer s H E) [] (start N vs) H s1:=by
 have hpl:ps.length<=N.length:=by have:=congrArg List.length S.pre;rw[List.length_take] at this;omega
 obtain⟨h1,tk,rfl,hk⟩:=x.done;have noA:∀b:Addr,b∉(cxOf CX P w K mg base N qual scope f cd A outer s H E).ex:=λb z=>Ji (show b∈([]:QO) from z) (by simp);refine⟨⟨e0.mod,S.kind,rfl,rfl,Jb _,λy z c h1 h2=>?_,λy hy=>?_,λy c _ h=>?_,λ_=>hd,Around.frames_deeper e0.frames,.inr ⟨rfl,rfl⟩,λb z=>Ji z (noA b),e0.bs,e0.bsz,λb _ _=>noA b,λb z=>Ji z (noA b),e0.funs,e0.frf⟩,
  rfl,e0.bare,Un.kept hk,⟨_,x.toInCall.ns,λi y v h1 h2 h3=>?_⟩,λy c h=>⟨_,x.cell y c h⟩,e0.hok.fresh (Jb _),λy c h=>?_,λp hp=>Ji (show p∈([]:QE) from hp) (by simp),e0.hok.kept hk,?_⟩
 ·exact name_of_addr x.apart (PySem.mem_of_lookup h1) (PySem.mem_of_lookup h2)
 ·have hy:scope.names.lookup y=some .cell\/scope.names.lookup y=some .free:=hy;rcases hy with hy | hy
  ·exact zjj hy
  ·exact Ji rfl (S.nofree _ (PySem.mem_of_lookup hy))
 ·exact Nat.le_of_lt (x.above y c (PySem.mem_of_lookup h))
 ·have hi:i < vs.length:=by
   unfold start at h2;by_cases hi:i < vs.length
   ·exact hi
   ·rw[List.getElem?_append_right (by simpa using hi)] at h2;rw[List.getElem?_replicate] at h2;split at h2 <;> cases h2
  have ha:vs[i]? =some v:=by
   unfold start at h2;rw[List.getElem?_append_left (by simpa using hi),List.getElem?_map] at h2;cases e:vs[i]? with
   | none=>rw[e] at h2;cases h2
   | some a=>rw[e] at h2;cases h2;rfl
  obtain⟨u,hu,rv⟩:=r.get ha;have hp:ps[i]? =some y:=by rw[<-S.pre,List.getElem?_take_of_lt (by omega)];exact h1
  have ndP:ps.Nodup:=by rw[<-S.pre];exact S.nd.sublist (List.take_sublist _ _)
  refine⟨u,rv,?_⟩;rcases S.par y (List.mem_of_getElem? hp) with k | k
  ·exact .inl ⟨k,zht ndP hp hu k⟩
  ·obtain⟨c,e⟩:=zjj (n:=s.heap.objs.size+1) k;refine .inr ⟨.inl k,c,e,?_⟩;have q:=x.cell y c e;rw[zhl ndP hp hu (by show scope.names.lookup y≠_;rw[k];decide)] at q;exact q
 ·exact e0.hok.fresh (Nat.le_of_lt (x.above y c (PySem.mem_of_lookup h)))
 ·unfold start;show _=N.length;rw[List.length_append,List.length_map,List.length_replicate];omega
abbrev _root_.QJ:=Array (Option Value)
theorem zpN {CX:CXT}{P:Program}{w:World}{K:QA}{mg:QB}{base:Heap}{k:Nat}{f:Addr}{name qual:Str}{params:Arguments}{body:List Stmt}{scope:Scope}{dV kV doc pm cdv ct oc:Value}{an od:QM}
  {osl:QJ} {N ps:QP} {sp:Sp} (lk:K.lookup f=some ⟨oc,od,.func (PySem.W.fnOf name qual params body scope dV kV doc pm an cdv ct),osl⟩) (hcd:PySem.W.codeIn K cdv qual=true) (S:zr N ps scope)
  (len:∀vs H Q E,sp vs H Q E->vs.length=ps.length)
  (hbody:∀(A:Around) (outer:List Env) (s:Shared) (H:Hp) (vs:QQ) (Q:VK) (E:XK),Room k (A.deeper (envOfC qual scope s.heap.objs.size f cdv))->sp vs H Q E->
   ∃t,PSs (cxOf CX P w K mg base N qual scope f cdv A outer s H E) body t/\t {nx:=λ_ H'=>Q .non H',rt:=Q} (start N vs) H):
  FnOk P w K mg base CX (k+1) f (PySem.W.fnOf name qual params body scope dV kV doc pm an cdv ct) ps sp:=by
 refine⟨len,λA outer s H args us vs Q E hr e0 hb r hsp=>?_⟩;have hl:=len _ _ _ _ hsp;have KX:K.In s.heap:=e0.mod.kin.keeps λb o e=>(e0.bs b o e).1;have lim:s.heap.NoLimit:=e0.mod.nolimit.keeps λb o e=>(e0.bs b o e).1;have hkind:∀y∈ps.zip us,scope.names.lookup y.1=some .local\/(scope.names.lookup y.1=some .cell/\((cellsFrom (s.heap.objs.size+1) scope.names []).lookup y.1).isSome=true):=λ⟨n,v⟩ hy=>by
  rcases S.par n (List.of_mem_zip hy).1 with q | q
  ·exact .inl q
  ·exact .inr ⟨q,PySem.W.cellsFrom_some _ _ _ (.inl q)⟩
 refine codeAny_call_function hr.depth (KX _ _ lk) rfl S.co S.gen rfl (PySem.W.codeRec_of KX hcd) (hb _ _ _ _ ?_);refine wpAny_newFunctionEnv_cells S.kind hkind λenv he s1 x=>?_;subst he;refine⟨lim.keeps x.toInCall.keep,codeAny_func ?_⟩;obtain⟨t,ht,hq⟩:=hbody A outer s H vs Q E (hr.deeper _) hsp;have I:Inv (cxOf CX P w K mg base N qual scope f cdv A outer s H E) [] (start N vs) H s1:=zls S hr.hd e0 hl r x;refine wpAny_mono (ht [] s1 (start N vs) H _ I hq) (λfl s' hs=>?_) λe s' hs=>hs;have fin:∀{σ':St} {H':Hp} {v:V} {u:Value},Inv (cxOf CX P w K mg base N qual scope f cdv A outer s H E) [] σ' H' s'->RelV v u->Q v H'->CE outer P w H s Q u s':=
  λ{σ' H' v u} J rv q=>⟨v,H',J.os,J.bare,J.base,J.hok,rv,q⟩
 cases fl with
 | ret u=>obtain⟨v,σ',H',J,rv,q⟩:=hs;exact fin J rv q
 | next=>obtain⟨σ',H',J,q⟩:=hs;exact fin (v:=V.non) (u:=Value.none) J rfl q
 | brk=>obtain⟨_,_,_,q⟩:=hs;exact False.elim q
 | cont=>obtain⟨_,_,_,q⟩:=hs;exact False.elim q
end L2
namespace L2
open PySem PySem.Spec PyProof.Rows
section
variable {X:Cx}{x:Str}{p pos:Pos}{e:Expr}{es:List Expr}{t:TA}{id T:String}{r:List V->Hp->VK->Prop}
def tCB (r:List V->Hp->VK->Prop)(t:TA):TE:=fun σ H Q=>t σ H λvs H1=>r vs H1 Q
theorem zH (hc:zbn X (.builtin id) r)(hg:Gl X x)(hm:X.mg x=none)(hv:bootBuiltins x=some (.builtin id))(ha:PA X (e::es) t)(hn:x≠ "__name__" :=by decide) (hdb:(x==("__debug__" :Str))=false:=by decide)
  (he:starEach (e::es) X.env=(false,eval e X.env)::starEach es X.env:=by rfl) (hpl:(backTo pos (starEach es X.env)).any (·.1)=false:=by rfl):PE X (.Call (.Name x p) (e::es) [] pos) (tCB r t):=by
 intro pins s σ H Q I h;refine wpAny_Call_Name_kw (zcK I hg hm hv ?_ hn hdb);exact PyProof.Rows.callWith_builtin1 (thn (ha pos pins s σ H _ I h) λus s1 ⟨vs,H1,I1,r1,q1⟩=>hc pins s1 σ H1 vs us Q I1 r1 q1) he hpl
theorem zhk (hc:zbn X (.type T) r)(hg:Gl X x)(hm:X.mg x=none)(hv:bootBuiltins x=some (.type T))(ha:PA X (e::es) t)(hn:x≠ "__name__" :=by decide) (hdb:(x==("__debug__" :Str))=false:=by decide)
  (he:starEach (e::es) X.env=(false,eval e X.env)::starEach es X.env:=by rfl) (hpl:(backTo pos (starEach es X.env)).any (·.1)=false:=by rfl):PE X (.Call (.Name x p) (e::es) [] pos) (tCB r t):=by
 intro pins s σ H Q I h;refine wpAny_Call_Name_kw (zcK I hg hm hv ?_ hn hdb);exact PyProof.Rows.callWith_type1 (thn (ha pos pins s σ H _ I h) λus s1 ⟨vs,H1,I1,r1,q1⟩=>hc pins s1 σ H1 vs us Q I1 r1 q1) he hpl
end
end L2
namespace HT
open PySem PyProof.Rows
noncomputable def lexLt:List Int->List Int->Bool
 | [],[]=>false
 | [],_::_=>true
 | _::_,[]=>false
 | x::xs,y::ys=>if x=y then lexLt xs ys else decide (x < y)
theorem lexLt_cons (x y:Int)(xs ys:List Int):lexLt (x::xs) (y::ys)=if x=y then lexLt xs ys else decide (x < y):=rfl
section
open PySem.SeqAt
open PySem.AutoSeq1 (wpAny_loadPart')
open PySem.MeetsSeq PySem.MeetsSeq2 PySem.MeetsSeq3
end
section
variable {prog:Program}{w:World}{A:Around}{E:QC}{s:Shared}
noncomputable def sIx (n d:Nat):Option Int->Nat
 | none=>d
 | some v=>if v < 0 then(v+(n:Int)).toNat else min v.toNat n
theorem sIx_none (n d:Nat):sIx n d none=d:=rfl
theorem sIx_nat (n d k:Nat):sIx n d (some (k:Int))=min k n:=by show(if (k:Int) < 0 then((k:Int)+(n:Int)).toNat else min (k:Int).toNat n)=min k n;rw[if_neg (by omega),Int.toNat_natCast]
theorem sIx_le (n d:Nat)(hd:d<=n)(o:Option Int):sIx n d o<=n:=by
 cases o with
 | none=>exact hd
 | some v=>
  show(if v < 0 then(v+(n:Int)).toNat else min v.toNat n)<=n;by_cases hv:v < 0
  ·rw[if_pos hv];omega
  ·rw[if_neg hv];exact Nat.min_le_right _ _
theorem clip_eq (v:Int)(n d:Nat):(if v < 0 then max (v+(n:Int)) 0 else min v (n:Int))=((sIx n d (some v):Nat):Int):=by
 show(if v < 0 then max (v+(n:Int)) 0 else min v (n:Int))=(((if v < 0 then(v+(n:Int)).toNat else min v.toNat n):Nat):Int);by_cases hv:v < 0
 ·simp only[if_pos hv];omega
 ·simp only[if_neg hv];omega
end
end HT
namespace L2
open PySem PySem.Spec PyProof.Rows
abbrev TO:=St->Hp->(Option Int->Hp->Prop)->Prop
def PO (X:Cx)(e:Option Expr)(t:TO):Prop:=
 ∀(pins:QE) (s:Shared) (σ:St) (H:Hp) (Q:Option Int->Hp->Prop),Inv X pins σ H s->t σ H Q->
  wpAny (model X.prog X.w) X.A (evalPart e X.env) (λu s'=>∃o H',Inv X pins σ H' s'/\IsPart u o/\Q o H') X.xe s
def zoY:TO:=λ_ H Q=>Q none H
def zro (t:TE):TO:=fun σ H Q=>t σ H λx H1=>∃i,x=.int i/\Q (some i) H1
section
variable {X:Cx}{e:Expr}{te:TE}{lo hi:Option Expr}{tl th:TO}{pos p2:Pos}
theorem zb3:PO X none zoY:=by intro pins s σ H Q I h;rw[evalPart_none];exact wpAny_pure ⟨none,H,I,.none,h⟩
theorem zaK (h:PE X e te):PO X (some e) (zro te):=by intro pins s σ H Q I hw;rw[evalPart_some];refine thn (h pins s σ H _ I hw) λu s1 ⟨x,H1,I1,r1,q1⟩=>?_;obtain⟨i,rfl,q⟩:=q1;obtain⟨t,rfl⟩:=r1;exact⟨some i,H1,I1,.int i t,q⟩
def SlR (X:Cx)(r:V->Option Int->Option Int->Hp->VK->Prop):Prop:=
 ∀(pins:QE) (s:Shared) (σ:St) (H:Hp) (x:V) (v vl vu:Value) (lo hi:Option Int) (sl:Addr) (Q:VK),Inv X pins σ H s->RelV x v->s.heap.IsSliceOf sl vl vu .none->IsPart vl lo->IsPart vu hi->r x lo hi H Q->
  ∃T id,typeLookup (.type T) "__getitem__" =pure (some (.builtin id))/\s.TypeIs v T/\wpAny (model X.prog X.w) X.A (getItem v (.ref sl)) (EP X pins σ Q) X.xe s
def tSl (r:V->Option Int->Option Int->Hp->VK->Prop)(te:TE)(tl th:TO):TE:=fun σ H Q=>te σ H λx H1=>tl σ H1 λl H2=>th σ H2 λu H3=>r x l u H3 Q
theorem zaM {r:V->Option Int->Option Int->Hp->VK->Prop}(hr:SlR X r)(he:PE X e te)(hl:PO X lo tl)(hu:PO X hi th):PE X (.Subscript e (.Slice lo hi none p2) pos) (tSl r te tl th):=by intro pins s σ H Q I h;refine Subscript_ (thn (he pins s σ H _ I h) λv s1 ⟨x,H1,I1,r1,q1⟩=>?_);refine wpAny_Slice (thn (hl pins s1 σ H1 _ I1 q1) λvl s2 ⟨l,H2,I2,pl,q2⟩=>thn (hu pins s2 σ H2 _ I2 q2) λvu s3 ⟨u,H3,I3,pu,q3⟩=>?_);rw[evalPart_none];refine wpAny_pure ?_;have I4:Inv X pins σ H3 {s3 with heap:=s3.heap.push {cls:=.type "slice",data:=.fields #[vl,vu,.none]}}:=I3.kept (t':=s3.toks) λb ob q=>Heap.get?_push_of_some _ q;obtain⟨T,id,hT,ht,hg⟩:=hr pins {s3 with heap:=s3.heap.push {cls:=.type "slice",data:=.fields #[vl,vu,.none]}} σ H3 x v vl vu l u s3.heap.objs.size Q I4 r1 (Heap.IsSliceOf.new ..) pl pu q3;show wpAny (model X.prog X.w) X.A (subscriptTail e (.Slice lo hi none p2) v (.ref s3.heap.objs.size)) (EP X pins σ Q) X.xe {s3 with heap:=s3.heap.push {cls:=.type "slice",data:=.fields #[vl,vu,.none]}};exact tail_any (ops:=[.ref s3.heap.objs.size,v]) ht hT hg (by with_unfolding_all rfl)
noncomputable def cutV (xs:QQ)(lo hi:Option Int):List V:=(xs.drop (HT.sIx xs.length 0 lo)).take (HT.sIx xs.length xs.length hi - HT.sIx xs.length 0 lo)
theorem ziP (xs:QQ)(lo hi:Option Int):(cutV xs lo hi).length<=xs.length:=by unfold cutV;rw[List.length_take,List.length_drop];omega
end
end L2
namespace L2
open PySem PySem.Spec PyProof.Rows
noncomputable def ixN (n:Nat)(i:Int):Option Nat:=if 0<=i then(if i < n then some i.toNat else none) else if -(n:Int)<=i then some (i+n).toNat else none
noncomputable def atI {α:Type}(xs:List α)(i:Int):Option α:=(ixN xs.length i).bind λj=>xs[j]?
theorem zpa {n:Nat}{i:Int}{j:Nat}(h:ixN n i=some j):seqIndex? i n=some j/\j < n/\ -(n:Int)<=i/\i < n:=by
 unfold ixN at h;by_cases h0:0<=i
 ·rw[if_pos h0] at h;by_cases h1:i < n
  ·rw[if_pos h1] at h;have e:i.toNat=j:=Option.some.inj h;exact⟨by rw[seqIndex_of h0 h1,e],by omega,by omega,h1⟩
  ·rw[if_neg h1] at h;cases h
 ·rw[if_neg h0] at h;by_cases h1: -(n:Int)<=i
  ·rw[if_pos h1] at h;have e:(i+n).toNat=j:=Option.some.inj h;exact⟨by rw[seqIndex_neg (by omega) h1,e],by omega,h1,by omega⟩
  ·rw[if_neg h1] at h;cases h
theorem zil {α:Type}{xs:List α}{i:Int}{v:α}(h:atI xs i=some v):∃j,seqIndex? i xs.length=some j/\xs[j]? =some v/\j < xs.length/\ -(xs.length:Int)<=i/\i < xs.length:=by
 unfold atI at h;cases e:ixN xs.length i with
 | none=>rw[e] at h;cases h
 | some j=>rw[e] at h;obtain⟨h1,h2,h3,h4⟩:=zpa e;exact⟨j,h1,h,h2,h3,h4⟩
theorem zaT {α:Type}{xs:List α}{j:Nat}{v:α}(h:xs[j]? =some v):atI xs (j:Int)=some v:=by
 have hj:j < xs.length:=(List.getElem?_eq_some_iff.mp h).1;have e:ixN xs.length (j:Int)=some j:=by unfold ixN;rw[if_pos (by omega),if_pos (by omega)];simp
 unfold atI;rw[e];exact h
theorem zbh {α:Type}(xs:List α)(v:α):atI (xs++ [v]) (-1)=some v:=by
 have hl:(xs++ [v]).length=xs.length+1:=by simp
 have e:ixN (xs++ [v]).length (-1)=some xs.length:=by unfold ixN;rw[hl,if_neg (by decide),if_pos (by omega)];congr 1;omega
 unfold atI;rw[e];show(xs++ [v])[xs.length]? =some v;simp
def zo4 (b:Expr):Prop:=∀o i,subscripted b false o i=operate [o,i] (getItem o i)
def IxR (X:Cx)(r:R2):Prop:=
 ∀(value slice:Expr) (pins:QE) (s:Shared) (σ:St) (H:Hp) (x y:V) (v u:Value) (Q:VK),Inv X pins σ H s->RelV x v->RelV y u->r x y H Q->
  subscripted slice false v u=operate [v,u] (getItem v u)->wpAny (model X.prog X.w) X.A (subscriptTail value slice v u) (EP X pins σ Q) X.xe s
def MtR (X:Cx)(id:String)(r:V->List V->Hp->VK->Prop):Prop:=
 ∀(pins:QE) (s:Shared) (σ:St) (H:Hp) (x:V) (xs:QQ) (v:Value) (us:QN) (Q:VK),Inv X pins σ H s->RelV x v->Vals xs us->r x xs H Q->
  wpAny (model X.prog X.w) X.A (call (.builtin id) (v::us)) (EP X pins σ Q) X.xe s
section
variable {X:Cx}{a b:Expr}{ta tb:TE}{pos:Pos}
theorem zt {r:R2}(hr:IxR X r)(ha:PE X a ta)(hb:PE X b tb)(hs:zo4 b):PE X (.Subscript a b pos) (tOp r ta tb):=by intro pins s σ H Q I h;exact Subscript_ (binT ha hb I h λv u s2 x y H2 I2 rx ry q=>hr a b pins s2 σ H2 x y v u Q I2 rx ry q (hs _ _))
def rIxL (K:QA):R2:=λx y H Q=>∃p xs i v,x=.ref p/\y=.int i/\SqL K H p xs/\atI xs i=some v/\Q v H
def rIxT (K:QA):R2:=λx y H Q=>∃p xs i v,x=.ref p/\y=.int i/\SqT K H p xs/\atI xs i=some v/\Q v H
def rIxS:R2:=λx y H Q=>∃z i c,x=.str z/\y=.int i/\z.length<=sizeLine/\atI z.cps.toList i=some c/\Q (.str ⟨#[c]⟩) H
theorem zN:IxR X (rIxL X.K):=by
 intro value slice pins s σ H x y v u Q I rx ry h hs;obtain⟨p,xs,i,z,rfl,rfl,hq,he,q⟩:=h;cases rx;obtain⟨t,rfl⟩:=ry;obtain⟨its,r,pl,hz⟩:=I.list hq;obtain⟨j,h1,h2,h3,h4,h5⟩:=zil he;obtain⟨w,ew,rw'⟩:=r.get h2;have hl:=r.length;have hn:=zgs;have fin:EP X pins σ Q w s:=⟨z,H,I,rw',q⟩;by_cases h0:0<=i
 ·have hj:i.toNat=j:=by rw[seqIndex_of h0 h5] at h1;exact Option.some.inj h1
  exact item_listR pl.isList h0 (by omega) (by rw[hj];simpa using ew) fin hs
 ·have hj:(i+(its.toArray.size:Int)).toNat=j:=by rw[seqIndex_neg (by omega) h4] at h1;rw[List.size_toArray,<-hl];exact Option.some.inj h1
  exact subscriptTail_builtinR (x:=w) pl.isList.typeIs slot_list_getitem.lookup
   (wpAny_getItem_list_neg (Q:=λr s'=>r=w/\EP X pins σ Q r s') pl.isList (by omega) (by rw[List.size_toArray] <;> omega) (by omega) (by rw[hj];simpa using ew) ⟨rfl,fin⟩) hs
theorem zy:IxR X (rIxT X.K):=by
 intro value slice pins s σ H x y v u Q I rx ry h hs;obtain⟨p,xs,i,z,rfl,rfl,hq,he,q⟩:=h;cases rx;obtain⟨t,rfl⟩:=ry;obtain⟨its,r,pl,hz⟩:=I.tuple hq;obtain⟨j,h1,h2,h3,h4,h5⟩:=zil he;obtain⟨w,ew,rw'⟩:=r.get h2;have hl:=r.length;have hn:=zgs;have fin:EP X pins σ Q w s:=⟨z,H,I,rw',q⟩;exact subscriptTail_builtinR (x:=w) pl.typeIs slot_tuple_getitem.lookup
  (getItem_tuple (j:=j) (Q:=λr s'=>r=w/\EP X pins σ Q r s') pl (by omega) (by omega) (by rw[List.size_toArray,<-hl];exact h1) (by simpa using ew) ⟨rfl,fin⟩) hs
theorem zqJ:IxR X rIxS:=by
 intro value slice pins s σ H x y v u Q I rx ry h hs;obtain⟨z,i,c,rfl,rfl,hz,he,q⟩:=h;obtain⟨t,rfl⟩:=rx;obtain⟨t',rfl⟩:=ry;obtain⟨j,h1,h2,h3,h4,h5⟩:=zil he;have hl:z.cps.toList.length=z.length:=by simp[Str.length]
 rw[hl] at h1 h4 h5;have hn:=zgs;exact tail_any (typeIs_str s z t) slot_str_getitem.lookup (getItem_str (c:=c) (by
  have e1:decide (i < -(2 ^ 63:Int))=false:=Jd (by omega);have e2:decide (i≥2 ^ 63)=false:=Jd (by omega);rw[e1,e2,Bool.or_false]) (by rw[h1];simpa using h2) ⟨.str ⟨#[c]⟩,H,I.tok _,⟨_,rfl⟩,q⟩) hs
theorem zpO (i:Int)(n d:Nat):max 0 (min (if i < 0 then i+(n:Int) else i) (n:Int))=((HT.sIx n d (some i):Nat):Int):=by
 simp only[HT.sIx];by_cases h:i < 0
 ·simp only[h,if_true] <;> omega
 ·simp only[h,if_false] <;> omega
theorem zh8 (lo hi:Option Int)(n:Nat):(sliceBounds lo hi none n).1=((HT.sIx n 0 lo:Nat):Int)/\(sliceBounds lo hi none n).2.1=((HT.sIx n n hi:Nat):Int)/\(sliceBounds lo hi none n).2.2=1:=by
 refine⟨?_,?_,rfl⟩
 ·cases lo with
  | none=>simp[sliceBounds,HT.sIx]
  | some i=>(simp only[sliceBounds,Option.getD_none,show(1:Int) > 0 by decide,if_true];exact zpO i n 0)
 ·cases hi with
  | none=>simp[sliceBounds,HT.sIx]
  | some i=>(simp only[sliceBounds,Option.getD_none,show(1:Int) > 0 by decide,if_true];exact zpO i n n)
theorem zg4 (its:QN)(lo hi:Option Int):slicePick its.toArray lo hi none=((its.drop (HT.sIx its.length 0 lo)).take (HT.sIx its.length its.length hi - HT.sIx its.length 0 lo)).toArray:=by obtain⟨h1,h2,h3⟩:=zh8 lo hi its.toArray.size;unfold slicePick;rw[h1,h2,h3];simp only[sliceRange_one,pick_run,List.size_toArray] <;> rfl
def rSlL (K:QA):V->Option Int->Option Int->Hp->VK->Prop:=λx lo hi H Q=>∃a xs,x=.ref a/\SqL K H a xs/\∀p,H p=none->Q (.ref p) (upd H p (.lst (cutV xs lo hi)))
theorem zbq:SlR X (rSlL X.K):=by intro pins s σ H x v vl vu lo hi sl Q I rx hs pl pu h;obtain⟨a,xs,rfl,hx,q⟩:=h;cases rx;obtain⟨its,r,ht,hz⟩:=I.list hx;have hlen:=r.length;refine⟨"list",_,slot_list_getitem.lookup,ht.isList.typeIs,?_⟩;refine wpAny_getItem_list_slice ht.isList hs pl pu .none (by simp) ?_ (by rw[List.size_toArray] <;> omega);rw[zg4,<-hlen];refine⟨.ref s.heap.objs.size,_,I.laid (t':=s.toks) (o:=.lst (cutV xs lo hi)) (λb ob q=>Heap.get?_push_of_some _ q) (Jb _) ?_,rfl,q _ (I.hok.fresh (Jb _))⟩;exact⟨Jn (ziP xs lo hi) hz,_,0,(r.drop (HT.sIx xs.length 0 lo)).take (HT.sIx xs.length xs.length hi - HT.sIx xs.length 0 lo),Heap.get?_push_size _ rfl⟩
noncomputable def eqV:V->V->Bool
 | .non,.non=>true
 | .bl a,.bl b=>a==b
 | .bl a,.int b=>(if a then 1 else 0)==b
 | .int a,.bl b=>a==(if b then 1 else 0)
 | .int a,.int b=>a==b
 | .str a,.str b=>a==b
 | _,_=>false
noncomputable def inV (x:V)(xs:QQ):Bool:=xs.any λy=>eqV y x
theorem zG:zbn X (.builtin "len") (λxs H Q=>∃p ys,xs=[.ref p]/\(SqL X.K H p ys\/SqT X.K H p ys)/\Q (.int ys.length) H):=by
 intro pins s σ H xs us Q I r h;obtain⟨p,ys,rfl,hq,q⟩:=h;obtain⟨u,rfl,rx⟩:=vals1 r;cases rx;have hn:=zgs;rcases hq with hq | hq
 ·obtain⟨its,r',pl,hz⟩:=I.list hq;have hlen:=r'.length;exact Calls.call_len_list pl.isList (by simp only[List.size_toArray] <;> omega) ⟨.int ys.length,H,I.tok _,⟨s.toks+1,by rw[List.size_toArray,hlen]⟩,q⟩
 ·obtain⟨its,r',pl,hz⟩:=I.tuple hq;have hlen:=r'.length;exact len_tuple pl (by simp only[List.size_toArray] <;> omega) ⟨.int ys.length,H,I.tok _,⟨s.toks+1,by rw[List.size_toArray,hlen]⟩,q⟩
theorem zcS:zbn X (.builtin "len") (λxs H Q=>∃z,xs=[.str z]/\z.length<=sizeLine/\Q (.int z.length) H):=by intro pins s σ H xs us Q I r h;obtain⟨z,rfl,hz,q⟩:=h;obtain⟨u,rfl,t,rfl⟩:=vals1 r;have hn:=zgs;exact len_str (by omega) ⟨.int z.length,H,I.tok _,⟨_,rfl⟩,q⟩
theorem zbn.or {f:Value}{r r':List V->Hp->VK->Prop}(h:zbn X f r)(h':zbn X f r'):zbn X f (λxs H Q=>r xs H Q\/r' xs H Q):=by
 intro pins s σ H xs us Q I rs q;rcases q with q | q
 ·exact h pins s σ H xs us Q I rs q
 ·exact h' pins s σ H xs us Q I rs q
theorem zh6:zbn X (.type "list") (λxs H Q=>∃p ys,xs=[.ref p]/\(SqL X.K H p ys\/SqT X.K H p ys)/\∀l,H l=none->Q (.ref l) (upd H l (.lst ys))):=by
 intro pins s σ H xs us Q I r h;obtain⟨p,ys,rfl,hq,q⟩:=h;obtain⟨u,rfl,rx⟩:=vals1 r;cases rx;have fin:∀(its:QN),Vals ys its->ys.length<=sizeLine->∀(h':Heap) (c':Nat),(∀b o',s.heap.get? b=some o'->h'.get? b=some o')->
   h'.get? s.heap.objs.size=some {cls:=.type "list",dict:=none,data:=.seq its.toArray c',slots:= #[]}->EP X pins σ Q (.ref s.heap.objs.size) {s with heap:=h'}:=λits r' hz h' c' kp e=>
  ⟨.ref s.heap.objs.size,_,I.laid (t':=s.toks) kp (Jb _) (show zZ X.prog X.w _ h' _ (.lst ys) from⟨hz,its,c',r',e⟩),rfl,q _ (I.hok.fresh (Jb _))⟩
 rcases hq with hq | hq
 ·obtain⟨its,r',pl,hz⟩:=I.list hq;have hlen:=r'.length;obtain⟨o,ho,hc,n,hd⟩:=pl.isList;exact call_list_seq p (.inl rfl) ho hc hd (λh' c' kp e=>fin its r' hz h' c' kp e) (by simp only[List.size_toArray] <;> omega)
 ·obtain⟨its,r',pl,hz⟩:=I.tuple hq;have hlen:=r'.length;obtain⟨o,ho,hc,n,hd⟩:=pl;exact call_list_seq p (.inr rfl) ho hc hd (λh' c' kp e=>fin its r' hz h' c' kp e) (by simp only[List.size_toArray] <;> omega)
def tyV (K:QA)(T:String)(x:V)(H:Hp):Prop:=match x with
 | .str _=>T= "str"
 | .int _=>T= "int"
 | .ref p=>(T= "list" /\∃xs,SqL K H p xs)\/(T= "tuple" /\∃o,K.lookup p=some o/\o.cls=.type "tuple" /\o.dict=none)\/
   (T= "dict" /\((∃kvs,H p=some (.dK kvs))\/∃kvs,H p=some (.dT kvs)))\/(T= "set" /\∃S n,H p=some (.set S n))
 | _=>False
theorem zqO {pins:QE}{σ:St}{H:Hp}{s:Shared}{T:String}{x:V}{v:Value}(I:Inv X pins σ H s)(r:RelV x v)(ty:tyV X.K T x H):
  s.TypeIs v T/\∀a,v=.ref a->∃ob,s.heap.get? a=some ob/\ob.dict=none:=by
 cases x with
 | str z=>obtain⟨t,rfl⟩:=r;cases (show T= "str" from ty);exact⟨typeIs_str s z t,λ_ e=>nomatch e⟩
 | int i=>obtain⟨t,rfl⟩:=r;cases (show T= "int" from ty);exact⟨typeIs_int s i t,λ_ e=>nomatch e⟩
 | ref p=>
  cases r;rcases ty with ⟨rfl,xs,hq⟩ | ⟨rfl,o,hk,hc,hd⟩ | ⟨rfl,hk⟩ | ⟨rfl,S,n,hk⟩
  ·obtain⟨its,_,pl,_⟩:=I.list hq;refine⟨pl.isList.typeIs,λa e=>?_⟩;cases e;obtain⟨o,n,e,c,hd,_⟩:=pl;exact⟨o,e,hd⟩
  ·refine⟨⟨o,I.kIn p o hk,hc⟩,λa e=>?_⟩;cases e;exact⟨o,I.kIn _ o hk,hd⟩
  ·have z:∃o,s.heap.get? p=some o/\o.ExactDict:=by
    rcases hk with ⟨kvs,hk⟩ | ⟨kvs,hk⟩
    ·obtain⟨_,_,_,_,o,_,_,e,ex,_⟩:=I.hok p _ hk;exact⟨o,e,ex⟩
    ·obtain⟨_,_,_,_,o,_,_,e,ex,_⟩:=I.hok p _ hk;exact⟨o,e,ex⟩
   obtain⟨o,e,ex⟩:=z;refine⟨⟨o,e,ex.1⟩,λa e2=>?_⟩;cases e2;exact⟨o,e,ex.2.1⟩
  ·obtain⟨o,_,_,_,e,ex,_⟩:=I.hok p _ hk;refine⟨⟨o,e,ex.1⟩,λa e2=>?_⟩;cases e2;exact⟨o,e,ex.2.1⟩
 | _=>exact False.elim ty
def tBM (K:QA)(T:String)(r:V->List V->Hp->VK->Prop)(to:TE)(t:TA):TE:=fun σ H Q=>to σ H λx H1=>tyV K T x H1/\t σ H1 λxs H2=>r x xs H2 Q
variable {o e:Expr}{es:List Expr}{to:TE}{t:TA}{name:Str}{apos cpos:Pos}{T id:String}{r:V->List V->Hp->VK->Prop}
theorem zet (pa:PlainAttrs T)(slot:Slot T name id)(hty:typeOf (.builtin id)=pure (.type "method_descriptor")) (hm:MtR X id r) (ho:PE X o to) (ha:PA X (e::es) t)
  (hbase:attributeBase o name X.env (eval o X.env)=eval o X.env:=by rfl)
  (hfew:((backTo cpos (starEach (e::es) X.env)).all (λx=>!x.1) && (backToKw cpos (keywordEach [] X.env)).all (λx=>x.1.isSome)
   && decide ((e::es).length+([]:List Keyword).length+(if ([]:List Keyword).isEmpty then 0 else 1) < 30))=true:=by rfl)
  (hline:(apos.endLine==cpos.line)=true:=by rfl) (hs:starEach (e::es) X.env=(false,eval e X.env)::starEach es X.env:=by rfl) (hplain:(backTo cpos (starEach es X.env)).any (·.1)=false:=by rfl):
  PE X (.Call (.Attribute o name apos) (e::es) [] cpos) (tBM X.K T r to t):=by
 intro pins s σ H Q I h;refine wpAny_Call_method_late hbase hfew hline rfl (thn (ho pins s σ H _ I h) λv s1 ⟨x,H1,I1,r1,ty,q1⟩=>?_);obtain⟨h1,h2⟩:=zqO I1 r1 ty;refine⟨T,id,pa,slot,hty,h1,h2,?_⟩;have hA:=ha cpos pins s1 σ H1 _ I1 q1;rw[hs] at hA ⊢;refine Calls.callWith_builtin (by show(false || (backTo cpos (starEach es X.env)).any (·.1))=false;rw[hplain] <;> rfl) (Calls.evalArgs_plain ?_);exact thn hA λus s2 ⟨vs,H2,I2,r2,q2⟩=>hm pins s2 σ H2 x vs v us Q I2 r1 r2 q2
end
end L2
namespace L2
open PySem PySem.Spec PyProof.Rows
def MtM (X:Cx)(id:String)(r:V->List V->Hp->VK->Prop):Prop:=
 ∀(pins:QE) (s:Shared) (σ:St) (H:Hp) (x:V) (xs:QQ) (v:Value) (us:QN) (Q:VK),Inv X pins σ H s->RelV x v->Vals xs us->r x xs H Q->
  wpAny (model X.prog X.w) X.A (call (.builtin id) (v::us)) (EP X pins σ Q) X.xe s
theorem Vals.one {x:V}{us:QN}(h:Vals [x] us):∃u,us=[u]/\RelV x u:=by
 cases h with
 | cons r t=>cases t;exact⟨_,rfl,r⟩
section
variable {X:Cx}{pins:QE}{σ:St}{H:Hp}{s:Shared}{l b:Addr}{xs ys zs:QQ}
theorem Inv.lset {its its':QN}{n:Nat}{f:Array Value->Array Value}{t':Nat}(I:Inv X pins σ H s)(hH:H l=some (.lst xs))
  (e:s.heap.get? l=some {cls:=.type "list",data:=.seq its.toArray n}) (hf:f its.toArray=its'.toArray) (hv:Vals ys its') (hz:ys.length<=sizeLine):
  Inv X pins σ (upd H l (.lst ys)) {s with heap:=s.heap.update l (Obj.mapSeq f),toks:=t'}:=by
 have q:=PySem.IsL.update e f;rw[hf] at q;refine I.write (x:=l) (e:=l) (by rw[hH];exact trivial) (.inl rfl) (λb' u hb hu=>(Heap.get?_update_other s.heap (Obj.mapSeq f) (Ne.symm hb)).trans hu) ⟨_,q⟩ ?_;exact⟨hz,its',_,hv,q⟩
theorem Inv.lnew {its:QN}{t':Nat}(I:Inv X pins σ H s)(hv:Vals ys its)(hz:ys.length<=sizeLine):
  Inv X pins σ (upd H s.heap.objs.size (.lst ys)) {s with heap:=s.heap.push {cls:=.type "list",data:=.seq its.toArray},toks:=t'}:=
 I.laid (λ_ _ q=>Heap.get?_push_of_some _ q) (Jb _) ⟨hz,its,0,hv,Heap.get?_push_size _ rfl⟩
theorem Inv.fresh (I:Inv X pins σ H s):H s.heap.objs.size=none:=I.hok.fresh (Jb _)
theorem Inv.lstM (I:Inv X pins σ H s)(hH:H l=some (.lst xs)):xs.length<=sizeLine/\∃(its:QN) (n:Nat),Vals xs its/\xs.length=its.length/\s.heap.get? l=some {cls:=.type "list",data:=.seq its.toArray n}:=by obtain⟨z,its,n,r,e⟩:=I.hok l _ hH;exact⟨z,its,n,r,r.length,e⟩
theorem zmU {n:Nat}(h:n<=sizeLine):Builtin.List.listTooLong n=false:=by unfold Builtin.List.listTooLong;exact Jd (by omega)
end
section
variable {X:Cx}
def zoW:V->List V->Hp->VK->Prop:=λx vs H Q=>∃l xs y,x=.ref l/\vs=[y]/\H l=some (.lst xs)/\xs.length < sizeLine/\Q .non (upd H l (.lst (xs++ [y])))
theorem zaX:MtM X "list.append" zoW:=by intro pins s σ H x vs v us Q I rx rv h;obtain⟨l,xs,y,rfl,rfl,hH,hz,q⟩:=h;cases rx;obtain⟨u,rfl,ru⟩:=rv.one;obtain⟨z,its,n,r,hl,e⟩:=I.lstM hH;refine call_meets F.slot_list_append ⟨_,e,rfl⟩ F.entry_list_append (F.args_list_append_2 _ _) (PySem.list_append l its.toArray n u (by rw[List.size_toArray];omega)) ⟨e,?_⟩;refine⟨.non,_,I.lset (its':=its++ [u]) hH e (by simp) (r.append (.cons ru .nil)) ?_,rfl,q⟩;rw[List.length_append,List.length_singleton];omega
def zph:V->List V->Hp->VK->Prop:=λx vs H Q=>∃l b xs zs,x=.ref l/\vs=[.ref b]/\H l=some (.lst xs)/\H b=some (.lst zs)/\xs.length+zs.length<=sizeLine/\Q .non (upd H l (.lst (xs++zs)))
theorem zlO:MtM X "list.extend" zph:=by
 intro pins s σ H x vs v us Q I rx rv h;obtain⟨l,b,xs,zs,rfl,rfl,hH,hB,hz,q⟩:=h;cases rx;obtain⟨u,rfl,ru⟩:=rv.one;cases ru;obtain⟨z,its,n,r,hl,e⟩:=I.lstM hH;obtain⟨z2,its2,n2,r2,hl2,e2⟩:=I.lstM hB;have hsz:its.toArray.size+its2.toArray.size<=sizeLine:=by rw[List.size_toArray,List.size_toArray];omega
 have hlong:¬(!its.toArray.isEmpty && Builtin.List.listTooLong (its.toArray.size+its2.toArray.size))=true:=by rw[zmU hsz,Bool.and_false];exact Jh
 refine call_meets F.slot_list_extend ⟨_,e,rfl⟩ F.entry_list_extend (F.args_list_extend_2 _ _)
  (AutoSeq1.list_extend_list_list_0 l its.toArray n b its2.toArray n2 hlong (by rw[List.size_toArray];omega) (by omega)) ⟨e,e2,?_⟩
 refine⟨.non,_,I.lset (its':=its++its2) hH e (by simp) (r.append r2) ?_,rfl,q⟩;rw[List.length_append];omega
def rCat:R2:=λx y H Q=>∃l b xs zs,x=.ref l/\y=.ref b/\H l=some (.lst xs)/\H b=some (.lst zs)/\xs.length+zs.length<=sizeLine/\∀p,H p=none->Q (.ref p) (upd H p (.lst (xs++zs)))
theorem zbJ:OpR X (binaryOp .Add) rCat:=by
 intro pins s σ H x y v u Q I rx ry h;obtain⟨l,b,xs,zs,rfl,rfl,hH,hB,hz,q⟩:=h;cases rx;cases ry;obtain⟨z,its,n,r,hl,e⟩:=I.lstM hH;obtain⟨z2,its2,n2,r2,hl2,e2⟩:=I.lstM hB;refine PySem.P.add_list e e2 ?_ (by rw[List.size_toArray,List.size_toArray];omega);have ea:its.toArray++its2.toArray=(its++its2).toArray:=by simp
 rw[ea];exact⟨.ref _,_,I.lnew (t':=s.toks) (r.append r2) (by rw[List.length_append];omega),rfl,q _ I.fresh⟩
end
section
variable {prog:Program}{w:World}{A:Around}{E:QC}{s:Shared}
end
section
variable {X:Cx}
end
end L2
namespace Att
open PySem PySem.W PySem.Calls PyProof.Rows
theorem zfB {P:Params}{h:Heap}:∀(ns:List Int) (vs:QN),WellAll P h vs (ns.map WData.int)->IntsAre vs ns:=by
 intro ns
 induction ns with
 | nil=>intro vs w;rw[List.map_nil] at w;cases w;exact .nil
 | cons n ns ih=>
  intro vs w;rw[List.map_cons] at w;cases w with
  | cons a b=>cases a;exact .cons _ _ (ih _ b)
theorem zlM {l:OpenLaw}{n:Nat}(hn:l.most=some n){P:Params}{h:Heap}{args:List WData}{vals:QN}
  (hpre:l.row.toRowW.claim.pre args=true) (hwl:WellAll P h vals args):
  ∃a vs ns,vals=[Value.ref a]/\args=[WData.list (ns.map WData.int)]/\h.get? a=some {cls:=.type "list",data:=.seq vs.toArray}/\IntsAre vs ns/\ns.length<=n:=by
 have hsh:WShape.hasAll [] args [.list .int]=true:=(pre_splitW hpre).1;have hc:l.pre.holds [] {args:=args}=true:=(pre_splitW hpre).2;obtain⟨d,r,rfl,h1,h2⟩:=hasAllW_cons hsh;obtain rfl:=hasAllW_nil h2;obtain⟨xs,rfl,h3⟩:=hasW_list h1;obtain⟨ns,rfl⟩:=items_int h3;have hlen:ns.length<=n:=by
  unfold OpenLaw.pre at hc;have h4:(WTm.not (.lt (.lit (.int (n:Int))) (.len (.arg 0)))).holds [] {args:=[.list (ns.map .int)]}=true:=by have h4:=(holds_andW hc).1;rw[hn] at h4;exact h4
  have h5:=condW_of h4 (w_not (w_lt w_lit (w_len_list (w_arg rfl))));rw[List.length_map] at h5;refine Nat.le_of_not_lt λq=>?_;have q':(n:Int) < ((ns.length:Nat):Int):=by omega
  first
   | (rw[decide_eq_true q'] at h5;exact Ji h5 (by decide))
   | (simp at h5;omega)
 cases hwl with
 | cons w1 w2=>
  cases w2;cases w1 with
  | list ho hall=>exact⟨_,_,ns,rfl,rfl,ho,zfB ns _ hall,hlen⟩
theorem zlV (l:OpenLaw)(args:List WData):l.row.toRowW.claim.post args (.bool true) args=true:=
 postW_of (r:=l.row.toRowW) (X:=(true==true))
  (show WShape.has [] (.bool true) .bool=true by first | rfl | decide | simp[WShape.has,WShape.arms,WShape.armsAll])
  (show(WTm.eq .res (.lit (.bool true))).value [] {args:=args,res:=some (.bool true),after:=args}=some (.bool (true==true)) from w_eq_bool (w_res rfl) w_lit) rfl
theorem attach_call {l:OpenLaw}{n:Nat}{q:Program}{loose:QP}{XP:(Str->Option Value)->Heap->Prop}{YP:World->Heap->Prop}{d:DefRec}
  (hn:l.most=some n) (hdf:d.params.defaults=[])
  (call:∀(w:World) (s₀ s₁:Shared) (mg mb:QB) (fa:Addr) (o:Obj) (pm cd doc:Value) (a:Addr) (vs:QN) (ns:List Int),
   Ground q loose [] XP w s₀ mg mb s₁.heap->YP w s₁.heap->
   s₁.heap.get? fa=some o->o.data=.func (docDef d.name d.params d.body d.scope pm cd doc)->s₁.heap.CodeRec cd d.name->mg d.name=some (.ref fa)->
   s₁.heap.get? a=some {cls:=.type "list",data:=.seq vs.toArray}->IntsAre vs ns->ns.length<=n->s₁.gens= #[]->
   codeAny (model l.prog w) callerA (.call (.ref fa) ⟨[.ref a],[]⟩) (λr s'=>r=.ok (.ret (.bool true))/\OldK s₁.heap s'.heap/\s'.os=s₁.os/\AllBare s'.gens) s₁):
  WalkO q loose XP YP l.row.toRowW d [] (λf vs=>PySem.call f vs):=by
 intro w s₀ s₁ mg mb G Y fa o pm cd doc dV kV ho hd hcd hD hmg hg args vals as hpre hlay hrd hwl hlo;obtain rfl:dV=.none:=Dflts.none hD hdf;obtain rfl:kV=.none:=Dflts.noKw hD;obtain⟨a,vs,ns,rfl,rfl,hobj,hints,hlen⟩:=zlM hn hpre hwl;refine enter_call (codeAny_mono (call w s₀ s₁ mg mb fa o pm cd doc a vs ns G Y ho (fd_plain hd) hcd hmg hobj hints hlen hg) λr s' hq=>?_);obtain⟨rfl,h2,h3,h4⟩:=hq;exact⟨.inl ⟨.bool true,.bool true,[],rfl,λ_=>rfl,.bool true,zlV l _,λ_=>⟨List.Pairwise.nil,λ_ hm=>(nomatch hm)⟩⟩,h2,h3,h4⟩
section
variable {prog:Program}{w:World}{A:Around}{E:QC}{s:Shared}{K:Frag}
end
end Att
namespace L2
open PySem PySem.Spec PyProof.Rows
theorem zeL:∀{vs:QN} {ns:List Int},IntsAre vs ns->Vals (ns.map V.int) vs
 | _,_,.nil=>.nil
 | _,_,.cons n t h=>.cons ⟨t,rfl⟩ (zeL h)
def Only (H:Hp):Prop:=∀b,H b=none\/∃o xs,H b=some (.frz o (.lst xs))
theorem zoa {P:Program}{w:World}{K:QA}{mg mb:QB}{CX:CXT}{k:Nat}{fa a:Addr}{fd:FuncData}{x:Str}{sp:Sp}{s₁:Shared}{vs:QN}{ns:List Int}
  (KX:K.In s₁.heap) (hns:s₁.heap.Ns mainGlobals mg) (hb:s₁.heap.Ns builtinsNs mb) (hbb:∀x:Str,x≠ "__name__" ->mb x=bootBuiltins x) (hlim:s₁.heap.NoLimit) (hg:s₁.gens= #[])
  (ha:s₁.heap.get? a=some {cls:=.type "list",data:=.seq vs.toArray}) (hi:IntsAre vs ns) (hl:ns.length<=sizeLine) (hr:Room k callerA)
  (F:∀base:Heap,K.In base->base.Ns mainGlobals mg->FnOk P w K mg base CX k fa fd [x] sp) (hbind:∀(s:Shared) (u:Value),BindsTo s fd ⟨[u],[]⟩ [(x,u)])
  (hsp:∀H:Hp,Only H->SqL K H a (ns.map V.int)->sp [.ref a] H (λv _=>v=.bl true) λ_ _ _=>False)
  (hCX:∀H e s',CX [] H s₁ (λ_ _ _=>False) e s'->False):
  codeAny (model P w) callerA (.call (.ref fa) ⟨[.ref a],[]⟩) (λr s'=>r=.ok (.ret (.bool true))/\OldK s₁.heap s'.heap/\s'.os=s₁.os/\AllBare s'.gens) s₁:=by
 have rv:=zeL hi;have lenV:=hi.length
 have core:∀H:Hp,Only H->SqL K H a (ns.map V.int)->HOk P w H s₁.heap->(∀b,H b≠none->b=a)->(H a≠none->K.lookup a=none)->
   codeAny (model P w) callerA (.call (.ref fa) ⟨[.ref a],[]⟩) (λr s'=>r=.ok (.ret (.bool true))/\OldK s₁.heap s'.heap/\s'.os=s₁.os/\AllBare s'.gens) s₁:=by
  intro H hO hS hok hA hK;have base_of:∀{b:Addr} {o:Obj},s₁.heap.get? b=some o->H b=none->(hidT s₁.heap H).get? b=some o:=λe n=>zm6 e n;have noA:∀{b:Addr} {o:Obj} {es:Array DictEntry} {ep:Nat},s₁.heap.get? b=some o->o.data=.dict es ep->H b=none:=λ{b o es ep} e d=>by
   cases q:H b with
   | none=>rfl
   | some u=>have e':b=a:=hA b (by rw[q];simp);subst e';rw[ha] at e;cases e;have d':Data.seq vs.toArray _=Data.dict es ep:=d;cases d'
  have nsK:∀{b:Addr} {m:QB},s₁.heap.Ns b m->(hidT s₁.heap H).Ns b m:=λ{b m} ⟨o,es,ep,e,d,r⟩=>⟨o,es,ep,base_of e (noA e d),d,r⟩;have hKb:K.In (hidT s₁.heap H):=λb o e=>base_of (KX b o e) (by
   cases q:H b with
   | none=>rfl
   | some u=>have e':b=a:=hA b (by rw[q];simp);subst e';rw[hK (by rw[q];simp)] at e;cases e)
  have hM:Mod K mg (hidT s₁.heap H):=⟨hKb,nsK hns,⟨mb,nsK hb,hbb⟩,let ⟨mc,h1,h2⟩:=hlim;⟨mc,nsK h1,h2⟩⟩
  have e0:Env0 P w K mg (hidT s₁.heap H) callerA [] s₁ H:=⟨rfl,hM,λb o e=>zoP e,Nat.le_of_eq (zlX _ _),trivial,λb hb=>Ji (show b∈([]:QO) from hb) (by simp),hok,.of_eq hg⟩;refine codeAny_mono ((F _ hKb (nsK hns)).run callerA [] s₁ H ⟨[.ref a],[]⟩ [.ref a] [.ref a] _ _ hr e0 (hbind s₁ (.ref a)) (.cons rfl .nil) (hsp H hO hS)) λr s' h=>?_;cases r with
  | error e=>exact(hCX H e s' h).elim
  | ok fl=>
   cases fl with
   | next=>exact False.elim h
   | brk=>exact False.elim h
   | cont=>exact False.elim h
   | ret u=>
    obtain⟨v,H',os,bare,un,hok',r',q⟩:=h;have q':v=.bl true:=q;subst q';obtain rfl:u=Value.bool true:=r';refine⟨rfl,OldK.of_keep λb o e=>?_,os,bare⟩;cases q:H b with
    | none=>exact un.keep b o e q (by intro z;exact Ji (show b∈([]:QO) from z) (by simp)) (by simp)
    | some u=>
     rcases hO b with z | ⟨ob,xs,z⟩
     ·rw[q] at z;cases z
     ·have z2:=un.frzs b ob _ z;obtain⟨e1,_⟩:=hok b _ z;obtain⟨e2,_⟩:=hok' b _ z2;rw[e] at e1;cases e1;exact e2
 cases hk:K.lookup a with
 | some o=>
  have e:=KX a o hk;rw[ha] at e;cases e;refine core (λ_=>none) (λ_=>.inl rfl) (.inr ⟨_,vs.toArray,_,hk,rfl,rfl,rfl,by rw[List.size_toArray,lenV];exact hl,by simpa using rv⟩) (λb u z=>by have z':(none:Option HO)=some u:=z;cases z') (λb z=>Ji rfl z) λz=>Ji rfl z
 | none=>
  refine core (λb=>if b=a then some (.frz {cls:=.type "list",data:=.seq vs.toArray} (.lst (ns.map V.int))) else none) (λb=>?_) (.inl (.inr ⟨{cls:=.type "list",data:=.seq vs.toArray},if_pos rfl⟩)) (λb u z=>?_) (λb z=>?_) λ_=>hk
  ·by_cases hb:b=a
   ·exact .inr ⟨_,_,if_pos hb⟩
   ·exact .inl (if_neg hb)
  ·by_cases hb:b=a
   ·have z':=(if_pos hb).symm.trans z;cases z';subst hb;exact⟨ha,by rw[List.length_map];exact hl,vs,_,rv,ha⟩
   ·have z':=(if_neg hb).symm.trans z;cases z'
  ·by_cases hb:b=a
   ·exact hb
   ·exact Ji (if_neg hb) z
end L2
namespace L2
open PySem PySem.Spec PyProof.Rows
noncomputable abbrev KOf {K:QA}{h:Heap}(_:K.In h):QA:=K
theorem zoV {l:PySem.W.OpenLaw}{n k:Nat}{q:Program}{loose:QP}{XP:(Str->Option Value)->Heap->Prop}{YP:World->Heap->Prop}{d:DefRec}{K:Params->QA}{CX:World->CXT}{sp:World->Sp}{x:Str}
  (hn:l.most=some n) (hn2:n<=sizeLine) (hdf:d.params.defaults=[]) (hr:Room k callerA)
  (hY:∀(w:World) (h:Heap),YP w h->(K w.params).In h)
  (F:∀(w:World) (mg:QB) (fa:Addr) (h:Heap),(K w.params).In h->h.Ns mainGlobals mg->mg d.name=some (.ref fa)->
   ∃fd:FuncData,(∀(s:Shared) (u:Value),BindsTo s fd ⟨[u],[]⟩ [(x,u)])/\
    ∀base:Heap,(K w.params).In base->base.Ns mainGlobals mg->FnOk l.prog w (K w.params) mg base (CX w) k fa fd [x] (sp w))
  (hsp:∀(w:World) (H:Hp) (a:Addr) (ns:List Int),ns.length<=n->Only H->SqL (K w.params) H a (ns.map V.int)->sp w [.ref a] H (λv _=>v=.bl true) λ_ _ _=>False)
  (hCX:∀(w:World) (H:Hp) (s:Shared) (e:Value) (s':Shared),CX w [] H s (λ_ _ _=>False) e s'->False):
  PySem.W.WalkO q loose XP YP l.row.toRowW d [] (λf vs=>PySem.call f vs):=by
 refine Att.attach_call hn hdf λw s₀ s₁ mg mb fa o pm cd doc a vs ns G Y ho hd hcd hmg hobj hints hlen hg=>?_;have KX:=hY w _ Y;obtain⟨fd,hb,hF⟩:=F w mg fa _ KX G.T.g hmg;exact zoa KX G.T.g G.T.b G.T.builtins G.T.nolimit hg hobj hints (Jn hlen hn2) hr hF hb (λH hO hS=>hsp w H a ns hlen hO hS) λH e s'=>hCX w H s₁ e s'
end L2
namespace L2
open PySem PySem.Spec PyProof.Rows
abbrev CX0:CXT:=λ_ _ _ _ _ _=>False
abbrev E0:XK:=λ_ _ _=>False
theorem zcx {X:Cx}:zbC CX0 X E0:=λ_ _ _ _ _ _ _ h=>h.elim
structure Fun (K:QA)(x qual:Str)(st:Stmt)(f:Addr)(fd:FuncData):Prop where
 ex:∃(oc:Value) (od:QM) (kV doc pm:Value) (an:QM) (cdv ct:Value) (osl:QJ),
  fd=PySem.W.fnOf x qual (zS st) (zM st) (zh st) .none kV doc pm an cdv ct/\K.lookup f=some ⟨oc,od,.func fd,osl⟩/\PySem.W.codeIn K cdv qual=true
 kp:PySem.W.keepIn K (.ref f)=true
section
variable {P:Program}{w:World}{K:QA}{mg:QB}{base:Heap}
theorem Fun.ok {x qual:Str}{st:Stmt}{f:Addr}{fd:FuncData}{N ps:QP}{k:Nat}{sp:Sp}(F:Fun K x qual st f fd)(S:zr N ps (zh st))(len:∀vs H Q E,sp vs H Q E->vs.length=ps.length)
  (hbody:∀(cdv:Value) (A:Around) (outer:List Env) (s:Shared) (H:Hp) (vs:QQ) (Q:VK) (E:XK),Room k (A.deeper (envOfC qual (zh st) s.heap.objs.size f cdv))->sp vs H Q E->
   ∃t,PSs (cxOf CX0 P w K mg base N qual (zh st) f cdv A outer s H E).nox (zM st) t/\t {nx:=λ_ H'=>Q .non H',rt:=Q} (start N vs) H):FnOk P w K mg base CX0 (k+1) f fd ps sp:=by
 obtain⟨oc,od,kV,doc,pm,an,cdv,ct,osl,rfl,lk,hcd⟩:=F.ex;refine zpN lk hcd S len λA outer s H vs Q E hr hsp=>?_;obtain⟨t,h,q⟩:=hbody cdv A outer s H vs Q E hr hsp;exact⟨t,h.nox,q⟩
theorem Fun.binds {x qual:Str}{st:Stmt}{f:Addr}{fd:FuncData}{ps:QP}(F:Fun K x qual st f fd)
  (h:∀(kV doc pm:Value) (an:QM) (cdv ct:Value) (us:QN),us.length=ps.length->bindArgs (PySem.W.fnOf x qual (zS st) (zM st) (zh st) .none kV doc pm an cdv ct) ⟨us,[]⟩=pure (ps.zip us)):Binds K fd ps []:=by
 obtain⟨oc,od,kV,doc,pm,an,cdv,ct,osl,rfl,lk,hcd⟩:=F.ex;exact .all (h kV doc pm an cdv ct)
theorem zbP {x qual:Str}{st:Stmt}{f:Addr}{oc:Value}{od an:QM}{osl:QJ}{kV doc pm cdv ct:Value}(l:K.lookup f=some ⟨oc,od,.func (PySem.W.fnOf x qual (zS st) (zM st) (zh st) .none kV doc pm an cdv ct),osl⟩)
  (c:PySem.W.codeIn K cdv qual=true) (k:PySem.W.keepIn K (.ref f)=true):Fun K x qual st f (PySem.W.fnOf x qual (zS st) (zM st) (zh st) .none kV doc pm an cdv ct):=⟨⟨oc,od,kV,doc,pm,an,cdv,ct,osl,rfl,l,c⟩,k⟩
end
theorem zck {A:Around}{k:Nat}(hr:Room k A):A.units+1 < cLine:=Nat.lt_of_le_of_lt (Nat.add_le_add_left (by decide:1<=64) _) hr.units
theorem zlu {n:Nat}(h:n<=1000):n < sizeLine:=Nat.lt_of_le_of_lt h (by decide)
section
variable {X:Cx}
theorem pv (i:Nat){x:Str}{pos:Pos}(hN:X.N[i]? =some x:=by rfl)(hv:Vis X.env.scope x:=by first | exact Or.inl rfl | exact Or.inr (Or.inl rfl) | exact Or.inr (Or.inr rfl))(hd:(x==("__debug__" :Str))=false:=by decide)
  (hcd:(x==("__classdict__" :Str))=false:=by decide):PE X (.Name x pos) (tVar i):=zqH hN hv hd hcd
end
def Same (H H':Hp):Prop:=∀b o,H b=some o->H' b=some o
theorem Same.refl (H:Hp):Same H H:=λ_ _ h=>h
theorem Same.trans {H H1 H2:Hp}(a:Same H H1)(b:Same H1 H2):Same H H2:=λc o h=>b c o (a c o h)
theorem Same.free {H H':Hp}(e:Same H H'){l:Addr}(h:H' l=Option.none):H l=Option.none:=by
 cases q:H l with
 | none=>rfl
 | some o=>rw[e l o q] at h;cases h
end L2
namespace L2
open PySem PySem.Spec PyProof.Rows
section
variable {κ:Type} [DecidableEq κ]
noncomputable def valV (kvs:List (κ ×V))(k:κ):Option V:=(kvs.find? λkv=>decide (kv.1=k)).map (·.2)
noncomputable def putK (kvs:List (κ ×V))(k:κ)(v:V):List (κ ×V):=
 if (kvs.any λkv=>decide (kv.1=k))=true then kvs.map (λkv=>if kv.1=k then(kv.1,v) else kv) else kvs++ [(k,v)]
theorem zef {p:κ ×V}{r:List (κ ×V)}{k:κ}(e:p.1=k):valV (p::r) k=some p.2:=by simp[valV,List.find?_cons,e]
theorem zf4 {p:κ ×V}{r:List (κ ×V)}{k:κ}(e:¬p.1=k):valV (p::r) k=valV r k:=by simp[valV,List.find?_cons,e]
theorem zf3 (k:κ):∀kvs:List (κ ×V),(kvs.any λkv=>decide (kv.1=k))=(valV kvs k).isSome
 | []=>rfl
 | p::r=>by
  rw[List.any_cons];by_cases e:p.1=k
  ·simp only[zef e,decide_eq_true e,Bool.true_or,Option.isSome_some]
  ·rw[zf4 e,Jd e,Bool.false_or];exact zf3 k r
theorem zfo (kvs:List (κ ×V))(k:κ)(v:V):(putK kvs k v).length<=kvs.length+1:=by
 unfold putK;split
 ·rw[List.length_map];omega
 ·rw[List.length_append,List.length_cons,List.length_nil];omega
theorem znO {kvs:List (κ ×V)}{k:κ}(v:V)(h:valV kvs k=none):putK kvs k v=kvs++ [(k,v)]:=by unfold putK;rw[zf3,h];exact if_neg (by decide)
theorem RelO.isSome_eq {o:Option V}{u:Option Value}(r:RelO o u):o.isSome=u.isSome:=by
 cases o with
 | none=>cases u with
  | none=>rfl
  | some _=>exact(show False from r).elim
 | some _=>cases u with
  | none=>exact(show False from r).elim
  | some _=>rfl
theorem KV.val {kvs:List (κ ×V)}{vs:List (κ ×Value)}(r:KV kvs vs)(k:κ):RelO (valV kvs k) (valueAt vs k):=by
 unfold KV at r
 induction r with
 | nil=>exact True.intro
 | @cons p q ps qs h t ih=>
  obtain⟨h1,h2⟩:=h;by_cases e:p.1=k
  ·have e':q.1=k:=h1.symm.trans e;have b:valueAt (q::qs) k=some q.2:=by simp[valueAt,List.find?_cons,e']
   rw[zef e,b];exact h2
  ·have e':¬q.1=k:=λz=>e (h1.trans z);have b:valueAt (q::qs) k=valueAt qs k:=by simp[valueAt,List.find?_cons,e']
   rw[zf4 e,b];exact ih
theorem KV.any {kvs:List (κ ×V)}{vs:List (κ ×Value)}(r:KV kvs vs)(k:κ):(kvs.any λkv=>decide (kv.1=k))=vs.any λkv=>decide (kv.1=k):=by
 unfold KV at r
 induction r with
 | nil=>rfl
 | cons h t ih=>rw[List.any_cons,List.any_cons,ih,h.1]
theorem KV.repl {kvs:List (κ ×V)}{vs:List (κ ×Value)}(r:KV kvs vs)(k:κ){y:V}{u:Value}(ry:RelV y u):
  KV (kvs.map λkv=>if kv.1=k then(kv.1,y) else kv) (vs.map λkv=>if kv.1=k then(kv.1,u) else kv):=by
 unfold KV at r ⊢
 induction r with
 | nil=>exact .nil
 | @cons p q ps qs h t ih=>
  rw[List.map_cons,List.map_cons];refine .cons ?_ ih;obtain⟨h1,h2⟩:=h;by_cases e:p.1=k
  ·rw[if_pos e,if_pos (h1.symm.trans e)];exact⟨h1,ry⟩
  ·rw[if_neg e,if_neg (λz=>e (h1.trans z))];exact⟨h1,h2⟩
theorem KV.put {kvs:List (κ ×V)}{vs:List (κ ×Value)}(r:KV kvs vs)(k:κ){y:V}{u:Value}(ry:RelV y u):KV (putK kvs k y) (stored vs k u):=by
 unfold putK stored;rw[r.any k];by_cases e:(vs.any λkv=>decide (kv.1=k))=true
 ·rw[if_pos e,if_pos e];exact r.repl k ry
 ·rw[if_neg e,if_neg e];exact Paired.snoc r ⟨rfl,ry⟩
theorem KV.length {kvs:List (κ ×V)}{vs:List (κ ×Value)}(r:KV kvs vs):kvs.length=vs.length:=Paired.length r
end
theorem zjb {P:Program}{w:World}{k:Key}{u:Value}(r:RelV (kV k) u):(zaJ P w).is k u=true:=by
 cases k with
 | inl i=>obtain⟨t,e⟩:=(show∃t,u=Value.int i t from r);subst e;exact zjf P w i t
 | inr x=>obtain⟨t,e⟩:=(show∃t,u=Value.str x t from r);subst e;exact zi3 P w x t
theorem zhs {P:Program}{w:World}:∀{ks:List Key} {us:QN},Vals (ks.map kV) us->ItemsAre (zaJ P w) ks us
 | [],_,r=>by rw[List.map_nil] at r;cases r;exact .nil
 | k::ks,_,r=>by
  rw[List.map_cons] at r;cases r with
  | cons h t=>exact .cons (zjb h) (zhs t)
abbrev KT (H:Hp):List (List Key ×V)->List (List Key ×Addr ×Value)->Prop:=Paired λp q=>p.1=q.1/\H q.2.1=some (.tup (p.1.map kV))/\RelV p.2 q.2.2
theorem KT.val {H:Hp}{kvs:List (List Key ×V)}{xs:List (List Key ×Addr ×Value)}(r:KT H kvs xs)(k:List Key):RelO (valV kvs k) ((atKey xs k).map (·.2)):=by
 induction r with
 | nil=>exact True.intro
 | @cons p q ps qs h t ih=>
  obtain⟨h1,_,h2⟩:=h;by_cases e:p.1=k
  ·have e':q.1=k:=h1.symm.trans e;have b:atKey (q::qs) k=some q.2:=by simp[atKey,List.find?_cons,e']
   rw[zef e,b];exact h2
  ·have e':¬q.1=k:=λz=>e (h1.trans z);have b:atKey (q::qs) k=atKey qs k:=by simp[atKey,List.find?_cons,e']
   rw[zf4 e,b];exact ih
theorem KT.repl {H:Hp}{kvs:List (List Key ×V)}{xs:List (List Key ×Addr ×Value)}(r:KT H kvs xs)(k:List Key){y:V}{u:Value}(ry:RelV y u):
  KT H (kvs.map λkv=>if kv.1=k then(kv.1,y) else kv) (xs.map (putAt k u)):=by
 induction r with
 | nil=>exact .nil
 | @cons p q ps qs h t ih=>
  rw[List.map_cons,List.map_cons];refine .cons ?_ ih;obtain⟨h1,h2,h3⟩:=h;unfold putAt;by_cases e:p.1=k
  ·rw[if_pos e,if_pos (h1.symm.trans e)];exact⟨h1,h2,ry⟩
  ·rw[if_neg e,if_neg (λz=>e (h1.trans z))];exact⟨h1,h2,h3⟩
theorem KT.put {H:Hp}{kvs:List (List Key ×V)}{xs:List (List Key ×Addr ×Value)}(r:KT H kvs xs)(k:List Key){b:Addr}{y:V}{u:Value}(hb:H b=some (.tup (k.map kV)))(ry:RelV y u):
  KT H (putK kvs k y) (storedH xs k b u):=by
 have e:(kvs.any λkv=>decide (kv.1=k))=(atKey xs k).isSome:=by rw[zf3,(r.val k).isSome_eq,Option.isSome_map]
 unfold putK storedH;rw[e];by_cases q:(atKey xs k).isSome=true
 ·rw[if_pos q,if_pos q];exact r.repl k ry
 ·rw[if_neg q,if_neg q];exact Paired.snoc r ⟨rfl,hb,ry⟩
theorem KT.keeps {H H':Hp}{kvs:List (List Key ×V)}{xs:List (List Key ×Addr ×Value)}(r:KT H kvs xs)(ht:∀b ys,H b=some (.tup ys)->H' b=some (.tup ys)):KT H' kvs xs:=
 Paired.mapP r λ_ _ z=>⟨z.1,ht _ _ z.2.1,z.2.2⟩
section
variable {P:Program}{w:World}{H:Hp}{h:Heap}{a:Addr}
theorem zpM {u:HO}(ok:HOk P w H h)(e:Rd H a u):zZ P w H h a u:=e.ok ok
theorem zjm {kvs:QG}(ok:HOk P w H h)(e:Rd H a (.dK kvs)):kvs.length<=sizeLine/\(a==sysModules)=false/\∃vs,KV kvs vs/\h.DictOf (zaJ P w) a vs:=
 show zZ P w H h a (.dK kvs) from zpM ok e
theorem zq9 {kvs:QG}(ok:HOk P w H h)(e:H a=some (.dK kvs)):kvs.length<=sizeLine/\(a==sysModules)=false/\∃vs,KV kvs vs/\h.DictOf (zaJ P w) a vs:=zjm ok (.inl e)
theorem zfX {ks:List Key}(ok:HOk P w H h)(e:H a=some (.tup (ks.map kV))):(tupleKind (zaJ P w)).is h ks a:=by obtain⟨_,its,r,o,h1,h2,n,h3⟩:=(show zZ P w H h a (.tup (ks.map kV)) from ok a _ e);exact⟨o,its.toArray,n,h1,h2,h3,by simpa using zhs r⟩
theorem ziV {kvs:List (List Key ×V)}(ok:HOk P w H h)(e:Rd H a (.dT kvs)):kvs.length<=sizeLine/\(a==sysModules)=false/\
  ∃xs,KT H kvs xs/\h.DictOfH (tupleKind (zaJ P w)) a xs:=by
 obtain⟨z,y,xs,r,o,es,ep,h1,h2,h3,h4,h5⟩:=(show zZ P w H h a (.dT kvs) from zpM ok e);refine⟨z,y,xs,r,o,es,ep,h1,h2,h3,h4,λx hx=>?_,h5⟩;have all:∀{l:List (List Key ×V)} {m:List (List Key ×Addr ×Value)},KT H l m->∀x∈m,(tupleKind (zaJ P w)).is h x.1 x.2.1:=by
  intro l m q
  induction q with
  | nil=>intro x hx;exact nomatch hx
  | @cons p q ps qs hq t ih=>
   intro x hx;rcases List.mem_cons.mp hx with e | hx
   ·subst e;exact zfX ok (by rw[<-hq.1];exact hq.2.1)
   ·exact ih x hx
 exact all r x hx
theorem zrs {kvs:List (List Key ×V)}(ok:HOk P w H h)(e:H a=some (.dT kvs)):kvs.length<=sizeLine/\(a==sysModules)=false/\
  ∃xs,KT H kvs xs/\h.DictOfH (tupleKind (zaJ P w)) a xs:=ziV ok (.inl e)
end
def DGet (H:Hp)(a:Addr)(y:V)(r:Option V):Prop:=
 (∃kvs k,Rd H a (.dK kvs)/\y=kV k/\r=valV kvs k)\/∃kvs k b,Rd H a (.dT kvs)/\y=.ref b/\H b=some (.tup (k.map kV))/\r=valV kvs k
def DPut (H:Hp)(a:Addr)(y v:V)(H':Hp):Prop:=
 (∃kvs k,H a=some (.dK kvs)/\y=kV k/\kvs.length < sizeLine/\H'=upd H a (.dK (putK kvs k v)))\/
 ∃kvs k b,H a=some (.dT kvs)/\y=.ref b/\H b=some (.tup (k.map kV))/\kvs.length < sizeLine/\H'=upd H a (.dT (putK kvs k v))
theorem DGet.k {H:Hp}{a:Addr}{kvs:QG}{k:Key}(e:H a=some (.dK kvs)):DGet H a (kV k) (valV kvs k):=.inl ⟨kvs,k,.inl e,rfl,rfl⟩
theorem DPut.k {H:Hp}{a:Addr}{kvs:QG}{k:Key}{v:V}(e:H a=some (.dK kvs))(hl:kvs.length < sizeLine):DPut H a (kV k) v (upd H a (.dK (putK kvs k v))):=.inl ⟨kvs,k,e,rfl,hl,rfl⟩
section
variable {X:Cx}{pins:QE}{σ:St}{H:Hp}{s:Shared}{a:Addr}{y v:V}{u r:Value}{o:Option V}{A:Around}{E:QC}
theorem Inv.big (I:Inv X pins σ H s):sysModules < s.heap.objs.size:=by have h:mainGlobals < s.heap.objs.size:=(I.mod.glob.keeps I.bk).lt;exact Nat.lt_trans (by decide) h
theorem zly {Q:QC}(hu:A.units+1 < cLine)(I:Inv X pins σ H s)(g:DGet H a y (some v))(ry:RelV y u)(h:∀w' s',Inv X pins σ H s'->RelV v w'->Q w' s'):
  wpAny (model X.prog X.w) A (getItem (.ref a) u) Q E s:=by
 rcases g with ⟨kvs,k,e,ey,l⟩ | ⟨kvs,k,b,e,ey,eb,l⟩
 ·subst ey;obtain⟨z,hd,vs,rel,dd⟩:=zjm I.hok e;obtain⟨w',hw,rw'⟩:=RelO.some_of (v:=v) (o:=valueAt vs k) (by rw[l];exact rel.val k);exact wpAny_getItem_of (zjb ry) dd.mapOf hw (h w' _ (I.tok _) rw')
 ·subst ey;cases (show u=Value.ref b from ry);obtain⟨z,hd,xs,rel,dd⟩:=ziV I.hok e;obtain⟨w',hw,rw'⟩:=RelO.some_of (v:=v) (o:=(atKey xs k).map (·.2)) (by rw[l];exact rel.val k);obtain⟨p,hp,hp2⟩:=Option.map_eq_some_iff.mp hw;refine wpAny_getItem_heap (tupleKind_room_in1 hu) (zfX I.hok eb) dd hp ?_;rw[hp2];exact h w' _ (I.tok _) rw'
theorem d_in {Q:QC}(hu:A.units+1 < cLine)(I:Inv X pins σ H s)(g:DGet H a y o)(ry:RelV y u)(h:∀s',Inv X pins σ H s'->Q (.bool o.isSome) s'):
  wpAny (model X.prog X.w) A (compareOp .In u (.ref a)) Q E s:=by
 rcases g with ⟨kvs,k,e,ey,l⟩ | ⟨kvs,k,b,e,ey,eb,l⟩
 ·subst ey;obtain⟨z,hd,vs,rel,dd⟩:=zjm I.hok e;refine wpAny_in_of (zjb ry) hd dd.mapOf ?_;rw[<-(rel.val k).isSome_eq,<-l];exact h _ (I.tok _)
 ·subst ey;cases (show u=Value.ref b from ry);obtain⟨z,hd,xs,rel,dd⟩:=ziV I.hok e;refine wpAny_in_heap (tupleKind_room_in1 hu) (zfX I.hok eb) hd dd ?_;have q:=(rel.val k).isSome_eq;rw[Option.isSome_map] at q;rw[<-q,<-l];exact h _ (I.tok _)
theorem zpb {Q:QC}(hu:A.units+1 < cLine)(I:Inv X pins σ H s)(g:DGet H a y o)(ry:RelV y u)(h:∀s',Inv X pins σ H s'->Q (.bool (!o.isSome)) s'):
  wpAny (model X.prog X.w) A (compareOp .NotIn u (.ref a)) Q E s:=by
 rcases g with ⟨kvs,k,e,ey,l⟩ | ⟨kvs,k,b,e,ey,eb,l⟩
 ·subst ey;obtain⟨z,hd,vs,rel,dd⟩:=zjm I.hok e;refine wpAny_notIn_of (zjb ry) hd dd.mapOf ?_;rw[<-(rel.val k).isSome_eq,<-l];exact h _ (I.tok _)
 ·subst ey;cases (show u=Value.ref b from ry);obtain⟨z,hd,xs,rel,dd⟩:=ziV I.hok e;refine wpAny_notIn_heap (tupleKind_room_in1 hu) (zfX I.hok eb) hd dd ?_;have q:=(rel.val k).isSome_eq;rw[Option.isSome_map] at q;rw[<-q,<-l];exact h _ (I.tok _)
theorem zld {h':Heap}{t':Nat}{ob:HO}(I:Inv X pins σ H s)(mu:Mut (H a))(hs:Heap.SameBut a s.heap h')(he:∃q,h'.get? a=some q)(new:zZ X.prog X.w (upd H a ob) h' a ob):
  Inv X pins σ (upd H a ob) {s with heap:=h',toks:=t'}:=
 I.write (x:=a) (e:=a) mu (.inl rfl) (λb q hb z=>(hs.2 b hb).trans z) he new
theorem zqI {P:Program}{w:World}{H':Hp}{h':Heap}{kvs:QG}{vs:List (Key ×Value)}(z:kvs.length<=sizeLine)(hd:(a==sysModules)=false)(rel:KV kvs vs)(dd:h'.DictOf (zaJ P w) a vs):
  zZ P w H' h' a (.dK kvs):=⟨z,hd,vs,rel,dd⟩
theorem zlI {H':Hp}{Q:QD}(hu:A.units+1 < cLine)(I:Inv X pins σ H s)(g:DPut H a y v H')(ry:RelV y u)(rv:RelV v r)(h:∀s',Inv X pins σ H' s'->Q () s'):
  wpAny (model X.prog X.w) A (setItem (.ref a) u r) Q E s:=by
 rcases g with ⟨kvs,k,e,ey,l,eH⟩ | ⟨kvs,k,b,e,ey,eb,l,eH⟩
 ·subst ey eH;obtain⟨z,hd,vs,rel,dd⟩:=zq9 I.hok e;have hz:vs.length<=sizeLine:=by rw[<-rel.length];exact z
  have hl:(putK kvs k v).length<=sizeLine:=by have:=zfo kvs k v;omega
  refine wpAny_setItem_pairs (hsz:=hz) (zjb ry) dd λh' dd' hs=>h _ ?_;have he:∃q,h'.get? a=some q:=let ⟨q,_,_,hq,_⟩:=dd';⟨q,hq⟩;exact zld I (by rw[e];exact True.intro) hs he (zqI hl hd (rel.put k rv) dd')
 ·subst ey eH;cases (show u=Value.ref b from ry);obtain⟨z,hd,xs,rel,dd⟩:=zrs I.hok e;have hz:xs.length<=sizeLine:=by rw[<-Paired.length rel];exact z
  have hl:(putK kvs k v).length<=sizeLine:=by have:=zfo kvs k v;omega
  refine wpAny_setItem_heap (hsz:=hz) (tupleKind_room_in1 hu) (zfX I.hok eb) dd λh' dd' hs=>h _ ?_;obtain⟨q,es,ep,hq,h2,h3,h4,_,h5⟩:=dd';refine zld I (by rw[e];exact True.intro) hs ⟨q,hq⟩ ⟨hl,hd,_,(rel.put k eb rv).keeps λc ys ec=>?_,q,es,ep,hq,h2,h3,h4,h5⟩;rw[zl (zbz ec e (λz=>nomatch z))];exact ec
end
section
variable {X:Cx}{pins:QE}{σ:St}{H:Hp}{s:Shared}{a:Addr}{kvs:QG}{k:Key}{u:Value}{A:Around}{E:QC}
end
def NoSl (i:Expr):Prop:=∀ov iv,subscripted i false ov iv=operate [ov,iv] (getItem ov iv)
theorem zoO {prog:Program}{w:World}{A:Around}{E:QC}{s:Shared}{env:Env}{value slice:Expr}{pos:Pos}{T id:String}{Q:QC}
  (hl:typeLookup (.type T) "__getitem__" =pure (some (.builtin id))) (hs:NoSl slice)
  (h:wpAny (model prog w) A (eval value env) (λo s₁=>wpAny (model prog w) A (eval slice env) (λi s₂=>s₂.TypeIs o T/\wpAny (model prog w) A (getItem o i) Q E s₂) E s₁) E s):
  wpAny (model prog w) A (eval (.Subscript value slice pos) env) Q E s:=by
 refine Subscript_ (wpAny_mono h (λo s₁ h₁=>wpAny_mono h₁ (λi s₂ h₂=>?_) λ_ _ x=>x) λ_ _ x=>x);obtain⟨hT,h₂⟩:=h₂;unfold subscriptTail;refine Ja ?_;rw[getitemInPython_of_ne hT.not_modules];refine Ja (wpAny_specialOf hT hl ?_);have fin:wpAny (model prog w) A (subscripted slice false o i) (λr s₃=>wpAny (model prog w) A (letTemporaryGo value o r >>=λ_=>pure r) Q E s₃) E s₂:=by rw[hs o i];exact wpAny_operating (wpAny_mono h₂ (λr s₃ h₃=>Ja (wpAny_letTemporaryGo (wpAny_pure h₃))) λ_ _ x=>x)
 first
  | exact wpAny_pure (Ja fin)
  | exact Ja (wpAny_pure (Ja fin))
  | exact Ja fin
theorem ziI {X:Cx}{pins:QE}{σ:St}{H:Hp}{s:Shared}{a:Addr}{y:V}{o:Option V}(I:Inv X pins σ H s)(g:DGet H a y o):s.TypeIs (.ref a) "dict" :=by
 rcases g with ⟨kvs,k,e,_,_⟩ | ⟨kvs,k,b,e,_,_,_⟩
 ·obtain⟨_,_,vs,_,dd⟩:=zjm I.hok e;exact dd.typeIs
 ·obtain⟨_,_,xs,_,dd⟩:=ziV I.hok e;exact dd.typeIs
def zri (td ty:TE):TE:=fun σ H Q=>td σ H λx H1=>ty σ H1 λy H2=>∃a v,x=.ref a/\DGet H2 a y (some v)/\Q v H2
def tDIn (ty td:TE):TE:=fun σ H Q=>ty σ H λy H1=>td σ H1 λx H2=>∃a o,x=.ref a/\DGet H2 a y o/\Q (.bl o.isSome) H2
def zoN (ty td:TE):TE:=fun σ H Q=>ty σ H λy H1=>td σ H1 λx H2=>∃a o,x=.ref a/\DGet H2 a y o/\Q (.bl (!o.isSome)) H2
def zrl (td ty tv:TE):TS:=λD σ H=>tv σ H λv H1=>td σ H1 λx H2=>ty σ H2 λy H3=>∃a H4,x=.ref a/\DPut H3 a y v H4/\D.nx σ H4
section
variable {X:Cx}{o i e value:Expr}{pos pos' tpos:Pos}{td ty tv:TE}
theorem zds (hu:X.A.units+1 < cLine)(ho:PE X o td)(hi:PE X i ty)(hs:NoSl i):PE X (.Subscript o i pos) (zri td ty):=by intro pins s σ H Q I h;refine zoO PySem.F.slot_dict_getitem.lookup hs (thn (ho pins s σ H _ I h) λu s1 ⟨x,H1,I1,rx,q1⟩=>thn (hi pins s1 σ H1 _ I1 q1) λiv s2 ⟨y,H2,I2,ry,a,v,ex,g,q2⟩=>?_);subst ex;obtain rfl:u=Value.ref a:=rx;exact⟨ziI I2 g,zly hu I2 g ry λw' s3 I3 rw'=>⟨v,H2,I3,rw',q2⟩⟩
theorem znU (hu:X.A.units+1 < cLine)(hi:PE X i ty)(ho:PE X o td):PC X .In i o (tDIn ty td):=by intro pins s σ H Q I h;refine thn (hi pins s σ H _ I h) λiv s1 ⟨y,H1,I1,ry,q1⟩=>thn (ho pins s1 σ H1 _ I1 q1) λu s2 ⟨x,H2,I2,rx,a,ov,ex,g,q2⟩=>?_;subst ex;obtain rfl:u=Value.ref a:=rx;exact d_in hu I2 g ry λs3 I3=>⟨.bl ov.isSome,H2,I3,rfl,q2⟩
theorem zhm (hu:X.A.units+1 < cLine)(hi:PE X i ty)(ho:PE X o td):PC X .NotIn i o (zoN ty td):=by intro pins s σ H Q I h;refine thn (hi pins s σ H _ I h) λiv s1 ⟨y,H1,I1,ry,q1⟩=>thn (ho pins s1 σ H1 _ I1 q1) λu s2 ⟨x,H2,I2,rx,a,ov,ex,g,q2⟩=>?_;subst ex;obtain rfl:u=Value.ref a:=rx;exact zpb hu I2 g ry λs3 I3=>⟨.bl (!ov.isSome),H2,I3,rfl,q2⟩
theorem zhP (hu:X.A.units+1 < cLine)(ho:PE X o td)(hi:PE X i ty)(hv:PE X value tv)(hs:swapsWith value (some (.Subscript o i pos')) pos.line X.env=pure false):
  PS X (.Assign [.Subscript o i pos'] value pos) (zrl td ty tv):=by
 intro pins s σ H D I h;refine wpAny_Assign_Subscript (thn (hv pins s σ H _ I h) λr s1 ⟨v,H1,I1,rv,q1⟩=>thn (ho pins s1 σ H1 _ I1 q1) λu s2 ⟨x,H2,I2,rx,q2⟩=>thn (hi pins s2 σ H2 _ I2 q2) λiv s3 ⟨y,H3,I3,ry,a,H4,ex,g,q3⟩=>?_) hs;subst ex;obtain rfl:u=Value.ref a:=rx;exact zlI hu I3 g ry rv λs4 I4=>⟨σ,H4,I4,q3⟩
end
theorem znK {P:Program}{w:World}{H:Hp}(h:Heap)(hb:sysModules < h.objs.size):zZ P w H (h.push {cls:=.type "dict",data:=.dict #[]}) h.objs.size (.dK []):=
 ⟨Nat.zero_le _,beq_eq_false_iff_ne.mpr (Ne.symm (Jm hb)),[],.nil,Heap.DictOf.new h⟩
def zpX:TE:=λ_ H Q=>∀p,H p=none->Q (.ref p) (upd H p (.dK []))
section
variable {X:Cx}{pos:Pos}
theorem zgT:PE X (.Dict [] [] pos) zpX:=λpins s σ H Q I h=>
 wpAny_Dict_empty ⟨.ref s.heap.objs.size,_,I.laid (a:=s.heap.objs.size) (o:=.dK []) (t':=s.toks) (λ_ _ q=>Heap.get?_push_of_some _ q) (Jb _) (znK s.heap I.big),rfl,h _ (I.hok.fresh (Jb _))⟩
end
def znJ:List (TE ×TE)->St->Hp->(List (V ×V)->Hp->Prop)->Prop
 | [],_,H,Q=>Q [] H
 | (tk,tv)::r,σ,H,Q=>tk σ H λx H1=>tv σ H1 λy H2=>znJ r σ H2 λps H3=>Q ((x,y)::ps) H3
abbrev VV:List (V ×V)->List (Value ×Value)->Prop:=Paired λp q=>RelV p.1 q.1/\RelV p.2 q.2
def PPs (X:Cx)(pos:Pos)(keys:List (Option Expr))(values:List Expr)(trs:List (TE ×TE)):Prop:=
 ∀(pins:QE) (s:Shared) (σ:St) (H:Hp) (Q:List (V ×V)->Hp->Prop),Inv X pins σ H s->znJ trs σ H Q->
  wpAny (model X.prog X.w) X.A (evalPairs (pairTrees keys values X.env pos)) (λvs s'=>∃ps H',Inv X pins σ H' s'/\VV ps vs/\Q ps H') X.xe s
structure M1 (X:Cx)(o:Expr)(m:Str)(apos:Pos)(e:Expr)(cpos:Pos):Prop where
 base:attributeBase o m X.env (eval o X.env)=eval o X.env
 few:((backTo cpos (starEach [e] X.env)).all (λx=>!x.1) && (backToKw cpos (keywordEach [] X.env)).all (λx=>x.1.isSome)
  && decide (([e]:List Expr).length+([]:List Keyword).length+(if ([]:List Keyword).isEmpty then 0 else 1) < 30))=true
 line:(apos.endLine==cpos.line)=true
 trees:backTo cpos (starEach [e] X.env)=[(false,eval e X.env)]
structure M2 (X:Cx)(o:Expr)(m:Str)(apos:Pos)(e f:Expr)(cpos:Pos):Prop where
 base:attributeBase o m X.env (eval o X.env)=eval o X.env
 few:((backTo cpos (starEach [e,f] X.env)).all (λx=>!x.1) && (backToKw cpos (keywordEach [] X.env)).all (λx=>x.1.isSome)
  && decide (([e,f]:List Expr).length+([]:List Keyword).length+(if ([]:List Keyword).isEmpty then 0 else 1) < 30))=true
 line:(apos.endLine==cpos.line)=true
 trees:backTo cpos (starEach [e,f] X.env)=[(false,eval e X.env),(false,eval f X.env)]
section
variable {X:Cx}{pins:QE}{σ:St}{H:Hp}{s:Shared}{a:Addr}{y d:V}{u r:Value}{o:Option V}{A:Around}{E:QC}
end
section
variable {X:Cx}{o e f:Expr}{apos cpos:Pos}{td ty tx:TE}
end
section
variable {X:Cx}{pins:QE}{σ:St}{H:Hp}{s:Shared}{a:Addr}{kvs:QG}{A:Around}{E:QC}
end
section
variable {X:Cx}{pins:QE}{σ:St}{H:Hp}{s:Shared}{a:Addr}{y:V}{u:Value}{A:Around}{E:QC}
end
end L2
namespace Px
open PySem
def Tb (h:Heap)(e:Addr)(cls:Value)(od:QM)(T:Addr)(fl:Value):Prop:=
 ∃oe vs oT ts,h.get? e=some oe/\oe.cls=cls/\oe.dict=od/\oe.data=.fields vs/\vs[1]? =some (.ref T)/\T≠e/\h.get? T=some oT/\oT.data=.fields ts/\ts[3]? =some fl
structure Chg (fs:QO)(e T:Addr)(h h':Heap):Prop where
 size:h.objs.size<=h'.objs.size
 keep:∀b o,h.get? b=some o->b∉fs->b≠e->b≠T->h'.get? b=some o
 slot:∀b o,h.get? b=some o->b∈fs->b≠e->b≠T->∃sl,h'.get? b=some {o with slots:=sl}
theorem zqN (o:Obj)(f:Array Value->Array Value):(Obj.mapFields f o).cls=o.cls:=Obj.cls_mapFields _ _
theorem zoL (o:Obj)(f:Array Value->Array Value):(Obj.mapFields f o).dict=o.dict:=by obtain⟨c,d,dt,sl⟩:=o;cases dt <;> rfl
section
variable {M:Model}{A:Around}{E:QC}{s:Shared}{base:Heap}{env:Env}{outer:List Env}{L e T:Addr}
theorem entry {oe:Obj}{vs:Array Value}{head:Value}{hadNext:Bool}{Q:QD}(hfr:A.frames=some (env::outer))
  (hl:s.heap.FunFrames base (env::outer)) (hf:env.frame=some L)
  (he:s.heap.get? e=some oe) (hd:oe.data=.fields vs) (hsz:1 < vs.size)
  (h:∀h' T',s.heap.objs.size<=T'->Tb h' e oe.cls oe.dict T' (rawInt L)->Chg ((env::outer).filterMap (·.frame)) e T' s.heap h'->Q () {s with heap:=h'}):
  wpAny M A (do
   let a<-frameOf env
   let pl<-entryPlaceOf L hadNext
   let b<-EntryCells.newEntry head a .none (rawInt L) .none pl
   setField (.ref e) 1 b) Q E s:=by
 have nfr:e∉(env::outer).filterMap (·.frame):=λhm=>by obtain⟨_,o,ho,hnf⟩:=hl.mem hm;have z:oe=o:=Option.some.inj (he.symm.trans ho);exact hnf vs (by rw[<-z];exact hd)
 refine Ja (wpAny_frameOf_fun hfr hl hf λg x=>?_);refine Ja (wpAny_entryPlaceOf λpl hp=>?_);unfold EntryCells.newEntry newFields;refine Ja (wpAny_newObj_type ?_ (hp.sizeOk5 _ _ _ _ _));have ge:g.get? e=some oe:=(x.2.1 e nfr).trans he;generalize hN:({cls:=.type "traceback",dict:=none,data:=.fields ([head,.ref L,.none,rawInt L,.none]++(if pl.isEmpty then List.replicate 6 Value.none else pl)).toArray}:Obj)=N;have nfN:N.isFreed=false:=by rw[<-hN];rfl
 have dN:∃ts,N.data=.fields ts/\ts[3]? =some (rawInt L):=by rw[<-hN];exact⟨_,rfl,by first | (simp;done) | (rcases hp with rfl | ⟨_,_,_,_,_,_,_,rfl⟩ <;> simp)⟩
 have pe:(g.push N).get? e=some oe:=Heap.get?_push_of_some N ge;have pT:(g.push N).get? g.objs.size=some N:=Heap.get?_push_size g nfN;have Te:g.objs.size≠e:=Ne.symm (Jm (Heap.lt_size ge));refine wpAny_setField pe hd hsz (h _ g.objs.size (by rw[x.1];exact Jb _) ?_ ?_)
 ·obtain⟨ts,d1,d2⟩:=dN;have dd:=Obj.data_mapFields hd (·.setIfInBounds 1 (Value.ref g.objs.size));refine⟨_,_,N,ts,Heap.get?_update_self _ pe (Obj.isFreed_of_fields dd),zqN _ _,zoL _ _,dd,by simp[hsz],Te,?_,d1,d2⟩;exact(Heap.get?_update_other _ _ (Ne.symm Te)).trans pT
 ·refine⟨?_,λb o q1 q2 q3 q4=>?_,λb o q1 q2 q3 q4=>?_⟩
  ·rw[Heap.size_after_update,Heap.size_push,x.1];exact Nat.le_succ _
  ·exact(Heap.get?_update_other _ _ (Ne.symm q3)).trans (Heap.get?_push_of_some N ((x.2.1 b q2).trans q1))
  ·obtain⟨sl,q⟩:=x.2.2 b o q1;exact⟨sl,(Heap.get?_update_other _ _ (Ne.symm q3)).trans (Heap.get?_push_of_some N q)⟩
theorem zrp {oe:Obj}{vs:Array Value}{Q:QD}(hfr:A.frames=some (env::outer))(hl:s.heap.FunFrames base (env::outer))(hf:env.frame=some L)
  (he:s.heap.get? e=some oe) (hd:oe.data=.fields vs) (h1:vs[1]? =some .none)
  (h:∀h' T',s.heap.objs.size<=T'->Tb h' e oe.cls oe.dict T' (rawInt L)->Chg ((env::outer).filterMap (·.frame)) e T' s.heap h'->Q () {s with heap:=h'}):
  wpAny M A (noteFrame (.ref e) env) Q E s:=by
 unfold noteFrame;simp only[hf];refine Ja (wpAny_field he hd h1 ?_);rw[if_neg (by decide)];exact entry hfr hl hf he hd (Array.getElem?_eq_some_iff.mp h1).1 h
theorem zpK {cls:Value}{od:QM}{Q:QD}(hfr:A.frames=some (env::outer))(hl:s.heap.FunFrames base (env::outer))(hf:env.frame=some L)
  (t:Tb s.heap e cls od T .none)
  (h:∀h' T',s.heap.objs.size<=T'->Tb h' e cls od T' (rawInt L)->Chg ((env::outer).filterMap (·.frame)) e T s.heap h'->Q () {s with heap:=h'}):
  wpAny M A (noteFrame (.ref e) env) Q E s:=by
 obtain⟨oe,vs,oT,ts,he,hc,ho,hd,h1,hTe,hT,hdT,h3⟩:=t;unfold noteFrame;simp only[hf];refine Ja (wpAny_field he hd h1 ?_);rw[if_pos (show(Value.ref T !=Value.none)=true from by simp)];refine Ja (wpAny_field hT hdT h3 ?_);rw[if_neg (show¬((Value.none==rawInt L)=true) from by simp[rawInt])];refine Ja (wpAny_setField hT hdT (Array.getElem?_eq_some_iff.mp h3).1 ?_);have oth:∀b,b≠T->(s.heap.update T (Obj.mapFields (·.setIfInBounds 3 Value.none))).get? b=s.heap.get? b:=λb hb=>Heap.get?_update_other _ _ (Ne.symm hb);have apart:∀b o,s.heap.get? b=some o->(∀vs,o.data≠ .fields vs)->b≠T:=λb o hb hn q=>by subst q;exact hn ts (by rw[<-Option.some.inj (hT.symm.trans hb)];exact hdT)
 refine entry (s:={s with heap:=s.heap.update T (Obj.mapFields (·.setIfInBounds 3 Value.none))}) hfr
  (hl.of_keeps λb o hb hn=>⟨o,(oth b (apart b o hb hn)).trans hb,rfl⟩) hf ((oth e (Ne.symm hTe)).trans he) hd (Array.getElem?_eq_some_iff.mp h1).1 λh' T' z1 z2 z3=>?_
 have z1':s.heap.objs.size<=T':=by rw[<-Heap.size_after_update s.heap T (Obj.mapFields (·.setIfInBounds 3 Value.none))];exact z1
 rw[hc,ho] at z2;refine h h' T' z1' z2 ⟨?_,λb o q1 q2 q3 q4=>?_,λb o q1 q2 q3 q4=>?_⟩
 ·rw[<-Heap.size_after_update s.heap T (Obj.mapFields (·.setIfInBounds 3 Value.none))];exact z3.size
 ·exact z3.keep b o ((oth b q4).trans q1) q2 q3 λq=>Ji (Heap.lt_size q1) (Nat.not_lt.mpr (q ▸ z1'))
 ·exact z3.slot b o ((oth b q4).trans q1) q2 q3 λq=>Ji (Heap.lt_size q1) (Nat.not_lt.mpr (q ▸ z1'))
theorem zhI {fs:QO}{cls fl:Value}{od:QM}{Q:QD}(t:Tb s.heap e cls od T fl)
  (h:∀h',Tb h' e cls od T .none->Chg fs e T s.heap h'->(∀b o,s.heap.get? b=some o->b≠T->h'.get? b=some o)->Q () {s with heap:=h'}):wpAny M A (setFlight (.ref e) none) Q E s:=by
 obtain⟨oe,vs,oT,ts,he,hc,ho,hd,h1,hTe,hT,hdT,h3⟩:=t;have z3:3 < ts.size:=(Array.getElem?_eq_some_iff.mp h3).1;have oth:∀b,b≠T->(s.heap.update T (Obj.mapFields (·.setIfInBounds 3 ((none:QM).elim Value.none λf=>rawInt f)))).get? b=s.heap.get? b:=
  λb hb=>Heap.get?_update_other _ _ (Ne.symm hb)
 unfold setFlight;refine Ja (wpAny_field he hd h1 ?_);rw[if_pos (show(Value.ref T !=Value.none)=true from by simp)];have dd:=Obj.data_mapFields hdT (·.setIfInBounds 3 ((none:QM).elim Value.none λf=>rawInt f));refine wpAny_setField hT hdT z3 (h _ ⟨oe,vs,_,_,(oth e (Ne.symm hTe)).trans he,hc,ho,hd,h1,hTe,Heap.get?_update_self _ hT (Obj.isFreed_of_fields dd),dd,by simp[z3]⟩ ?_ ?_)
 ·refine⟨?_,λb o q1 _ _ q4=>(oth b q4).trans q1,λb o q1 _ _ q4=>⟨o.slots,(oth b q4).trans q1⟩⟩;rw[Heap.size_after_update];exact Jb _
 ·exact λb o q1 q4=>(oth b q4).trans q1
end
structure Chg2 (fs:QO)(own:Addr->Prop)(h h':Heap):Prop where
 size:h.objs.size<=h'.objs.size
 keep:∀b o,h.get? b=some o->b∉fs->¬own b->h'.get? b=some o
 slot:∀b o,h.get? b=some o->b∈fs->¬own b->∃sl,h'.get? b=some {o with slots:=sl}
theorem Chg.two {fs:QO}{own:Addr->Prop}{e T:Addr}{h h':Heap}(c:Chg fs e T h h')(o1:own e)(o2:own T\/h.get? T=none):Chg2 fs own h h':=by
 have nT:∀b o,h.get? b=some o->¬own b->b≠T:=λb o q n z=>by
  subst z;rcases o2 with y | y
  ·exact n y
  ·rw[y] at q;cases q
 exact⟨c.size,λb o q a n=>c.keep b o q a (λz=>n (z ▸ o1)) (nT b o q n),λb o q a n=>c.slot b o q a (λz=>n (z ▸ o1)) (nT b o q n)⟩
theorem Chg2.trans {fs:QO}{own:Addr->Prop}{h h1 h2:Heap}(a:Chg2 fs own h h1)(b:Chg2 fs own h1 h2):Chg2 fs own h h2:=
 ⟨Jn a.size b.size,λc o q n m=>b.keep c o (a.keep c o q n m) n m,λc o q n m=>by obtain⟨s1,e1⟩:=a.slot c o q n m;obtain⟨s2,e2⟩:=b.slot c _ e1 n m;exact⟨s2,e2⟩⟩
section
variable {M:Model}{A:Around}{E:QC}{s:Shared}{base:Heap}{env:Env}{outer:List Env}{L e T:Addr}
theorem zqP {oe:Obj}{vs:Array Value}{Q:QD}(hfr:A.frames=some (env::outer))(hl:s.heap.FunFrames base (env::outer))(hf:env.frame=some L)
  (he:s.heap.get? e=some oe) (hd:oe.data=.fields vs) (h1:vs[1]? =some .none)
  (h:∀h' T',s.heap.objs.size<=T'->Tb h' e oe.cls oe.dict T' .none->Chg2 ((env::outer).filterMap (·.frame)) (· =e) s.heap h'->Q () {s with heap:=h'}):
  wpAny M A (leaving env (.ref e)) Q E s:=by
 unfold leaving;refine Ja (zrp hfr hl hf he hd h1 λg T' z t c=>?_);refine zhI (s:={s with heap:=g}) (fs:=(env::outer).filterMap (·.frame)) t λh' t' c' k=>h h' T' z t' ?_;have n:s.heap.get? T'=none:=Heap.get?_none_of_le z;refine⟨Jn c.size c'.size,λb o q a m=>?_,λb o q a m=>?_⟩
 ·have bT:b≠T':=λy=>by subst y;rw[n] at q;cases q
  exact k b o (c.keep b o q a m bT) bT
 ·have bT:b≠T':=λy=>by subst y;rw[n] at q;cases q
  obtain⟨sl,y⟩:=c.slot b o q a m bT;exact⟨sl,k b _ y bT⟩
theorem zqd {cls:Value}{od:QM}{Q:QD}(hfr:A.frames=some (env::outer))(hl:s.heap.FunFrames base (env::outer))(hf:env.frame=some L)
  (t:Tb s.heap e cls od T .none)
  (h:∀h' T',s.heap.objs.size<=T'->Tb h' e cls od T' .none->Chg2 ((env::outer).filterMap (·.frame)) (λb=>b=e\/b=T) s.heap h'->Q () {s with heap:=h'}):
  wpAny M A (leaving env (.ref e)) Q E s:=by
 unfold leaving;refine Ja (zpK hfr hl hf t λg T' z t1 c=>?_);refine zhI (s:={s with heap:=g}) (fs:=(env::outer).filterMap (·.frame)) t1 λh' t' c' k=>h h' T' z t' ?_;have n:s.heap.get? T'=none:=Heap.get?_none_of_le z;refine⟨Jn c.size c'.size,λb o q a m=>?_,λb o q a m=>?_⟩
 ·have bT:b≠T':=λy=>by subst y;rw[n] at q;cases q
  exact k b o (c.keep b o q a (λy=>m (.inl y)) λy=>m (.inr y)) bT
 ·have bT:b≠T':=λy=>by subst y;rw[n] at q;cases q
  obtain⟨sl,y⟩:=c.slot b o q a (λy=>m (.inl y)) λy=>m (.inr y);exact⟨sl,k b _ y bT⟩
theorem zrj {cls:Value}{od:QM}{Q:QD}(hfr:A.frames=some (env::outer))(hl:s.heap.FunFrames base (env::outer))(hf:env.frame=some L)
  (t:Tb s.heap e cls od T .none)
  (h:∀h' T',s.heap.objs.size<=T'->Tb h' e cls od T' .none->Chg2 ((env::outer).filterMap (·.frame)) (λb=>b=e\/b=T) s.heap h'->Q () {s with heap:=h'}):
  wpAny M A (noteFrame (.ref e) env) (λ_ s'=>wpAny M A (setFlight (.ref e) none) Q E s') E s:=by
 refine zpK hfr hl hf t λg T' z t1 c=>?_;refine zhI (s:={s with heap:=g}) (fs:=(env::outer).filterMap (·.frame)) t1 λh' t' c' k=>h h' T' z t' ?_;have n:s.heap.get? T'=none:=Heap.get?_none_of_le z;refine⟨Jn c.size c'.size,λb o q a m=>?_,λb o q a m=>?_⟩
 ·have bT:b≠T':=λy=>by subst y;rw[n] at q;cases q
  exact k b o (c.keep b o q a (λy=>m (.inl y)) λy=>m (.inr y)) bT
 ·have bT:b≠T':=λy=>by subst y;rw[n] at q;cases q
  obtain⟨sl,y⟩:=c.slot b o q a (λy=>m (.inl y)) λy=>m (.inr y);exact⟨sl,k b _ y bT⟩
end
end Px
namespace Px
open PySem PySem.W PySem.Builtin PySem.Builtin.ObjectAttr
noncomputable abbrev bmV:List Value:=[.type "ValueError",.type "Exception",.type "BaseException",.type "object"]
noncomputable def xIn (K:Frag)(C:Addr):Bool:=match K.lookup C with
 | some ⟨.type "type",_,.cls cd,sl⟩=>(match cd.mro,sl.toList with
  | .ref D::bm,[_,_,_,_,some (.builtin n),_]=>D==C && n== "ValueError.__new__" && !cd.hasDel && tailIn K bmV bm
  | _,_=>false)
 | _=>false
theorem znb {K:Frag}{h:Heap}{C:Addr}(X:K.In h)(q:xIn K C=true):∃nm qn N bs bm hd sn sub ab col dd k0 k1 k2 k3 k5,
  h.get? C=some (excClassObj nm qn C N bs bm hd sn sub ab col dd k0 k1 k2 k3 k5 "ValueError.__new__")/\OwnTail h bmV bm:=by
 unfold xIn at q;split at q
 ·rename_i dd cd sl ho;split at q
  ·rename_i D bm k0 k1 k2 k3 n k5 hm hs;simp only[Bool.and_eq_true,beq_iff_eq,Bool.not_eq_true'] at q;obtain⟨⟨⟨y1,y2⟩,y3⟩,y4⟩:=q;subst y1;subst y2;obtain⟨nm,bs,mro,ns,qn,hd,sn,sub,ab,col,del⟩:=cd;dsimp only at hm y3;subst hm;subst y3;have e:sl= #[k0,k1,k2,k3,some (.builtin "ValueError.__new__"),k5]:=by obtain⟨l⟩:=sl;exact congrArg Array.mk hs
   subst e;exact⟨nm,qn,ns,bs,bm,hd,sn,sub,ab,col,dd,k0,k1,k2,k3,k5,X _ _ ho,tail_of_in X y4⟩
  ·cases q
 ·cases q
noncomputable abbrev zj5 (C t:Addr):Obj:={cls:=.ref C,data:=.fields #[.ref t,.none,.none,.none,.bool false,.none]}
noncomputable abbrev zqp (vs:QN):Obj:={cls:=.type "tuple",data:=.seq vs.toArray}
noncomputable abbrev zbu (h:Heap)(C:Addr)(vs:QN):Heap:=(h.push (zqp vs)).push (zj5 C h.objs.size)
theorem zcF {h:Heap}{C:Addr}{vs:QN}{b:Addr}{o:Obj}(e:h.get? b=some o):(zbu h C vs).get? b=some o:=
 Heap.get?_push_of_some _ (Heap.get?_push_of_some _ e)
theorem zgj {h:Heap}{C:Addr}{vs:QN}:(zbu h C vs).get? (h.objs.size+1)=some (zj5 C h.objs.size):=
 Heap.get?_push_at (by rw[Heap.size_push]) rfl
section
variable {prog:Program}{w:World}{A:Around}{E:QC}{h:Heap}{g:Array GenState}{d:Drawn}{t:Nat}{os:OsState}{K:Frag}{C fI:Addr}{vs:QN}
theorem zmg {Q:Fin->Shared->Prop}(X:K.In h)(q:xIn K C=true)(hi:findIn K (.ref C) "__init__" =some (some (.ref fI))) (hf:typeIn K (.ref fI)=some (.type "function"))
  (hq:wpAny (model prog w) A (call (.ref fI) (.ref (h.objs.size+1)::vs)) (λr s'=>r=.none/\Q (.done (.ret (.ref (h.objs.size+1)))) s') E ⟨zbu h C vs,g,d,t,os⟩) (hz:vs.length<=sizeLine):
  wpAny (model prog w) A (Builtin.«type.__call__» ⟨.ref C::vs,[]⟩) Q E ⟨h,g,d,t,os⟩:=by
 obtain⟨nm,qn,N,bs,bm,hd,sn,sub,ab,col,dd,k0,k1,k2,k3,k5,cO,tl⟩:=znb X q;have FV:=PySem.F.excBase_ValueError;have inV:bmV.contains (.type "ValueError")=true:=by decide
 repeat (first | with_reducible refine wpAny_loadPart_at cO ?_ | with_reducible refine wpAny_madeBy_exc cO ?_ | wp_step)
 refine codeAny_call_builtin_code (Code.quiet_builtin _ FV.quiet) (wpAny_check_new_subU FV inV tl cO ?_);refine codeAny_exc_new_subU FV inV FV tl cO ?_ hz;show wpAny _ _ _ _ _ _;have cO1:(zbu h C vs).get? C=_:=zcF cO;have X1:K.In (zbu h C vs):=X.keeps λb o e=>zcF e;have at1:(zbu h C vs).get? (h.objs.size+1)=some (zj5 C h.objs.size):=zgj;have cC:(Value.ref C::bm).contains (.ref C)=true:=by simp
 unfold isInstance
 repeat (first | with_reducible refine wpAny_loadPart_at at1 ?_ | (with_reducible refine wpAny_isSubtype_exc cO1 ?_;rw[cC]) | wp_step)
 show wpAny _ _ (typeLookup (.ref C) _) _ _ _;refine(looks_findIn X1 hi).here (s:=⟨zbu h C vs,g,d,t,os⟩) ?_;refine wpAny_holding (Ja ((bind_fn X1 _ hf).here (s:=⟨zbu h C vs,g,d,t,os⟩) ?_));refine Ja (wpAny_mono hq (λr s' hr=>?_) λ_ _ x=>x);obtain⟨e1,hQ⟩:=hr;subst e1
 wp_walk
 exact hQ
theorem zlN {Q:QC}(X:K.In h)(q:xIn K C=true)(hi:findIn K (.ref C) "__init__" =some (some (.ref fI))) (hf:typeIn K (.ref fI)=some (.type "function"))
  (hq:wpAny (model prog w) (A.under (.builtin "type.__call__" ⟨.ref C::vs,[]⟩)) (call (.ref fI) (.ref (h.objs.size+1)::vs)) (λr s'=>r=.none/\Q (.ref (h.objs.size+1)) s') E ⟨zbu h C vs,g,d,t,os⟩)
  (hz:vs.length<=sizeLine):wpAny (model prog w) A (call (.ref C) vs) Q E ⟨h,g,d,t,os⟩:=by
 obtain⟨nm,qn,N,bs,bm,hd,sn,sub,ab,col,dd,k0,k1,k2,k3,k5,cO,tl⟩:=znb X q;have l1:=tc_lookup;have l2:=tc_bind (.ref C);have isT:(⟨h,g,d,t,os⟩:Shared).TypeIs (.ref C) "type" :=⟨_,cO,rfl⟩;refine wpAny_call (codeAny_of_tree ?_);show wpAny _ _ (callAny (.ref C) _) _ _ _
 repeat (any_goals (first | assumption | with_reducible refine wpAny_loadPart_at cO ?_ | wp_step))
 refine⟨rfl,?_⟩;refine codeAny_call_builtin_at (Code.quiet_builtin _ (by decide+kernel)) entry_typeCall (wpAny_check_type_call_sub cO (zmg X q hi hf ?_ hz));exact hq
theorem zjW {s:Shared}{Q:QC}(X:K.In s.heap)(q:excIn K C bmV "ValueError.__new__" =true)
  (hq:∀h' e,Heap.MadeExcOf s.heap h' e (.ref C) vs->Q (.ref e) {s with heap:=h'}) (hz:vs.length<=sizeLine):wpAny (model prog w) A (call (.ref C) vs) Q E s:=by
 obtain⟨h,g,d,t,os⟩:=s;have FV:=PySem.F.excBase_ValueError;have inV:bmV.contains (.type "ValueError")=true:=by decide
 unfold excIn at q;split at q
 ·rename_i dd cd sl ho;split at q
  ·rename_i D bm k0 k1 k2 k3 n k5 hm hs;simp only[Bool.and_eq_true,beq_iff_eq,Bool.not_eq_true'] at q;obtain⟨⟨⟨⟨⟨y1,y2⟩,y3⟩,y4⟩,y5⟩,y6⟩:=q;subst y1;subst y2;obtain⟨nm,bs,mro,ns,qn,hd,sn,sub,ab,col,del⟩:=cd;dsimp only at hm y3 y5 y6;subst hm;subst y3;have e:sl= #[k0,k1,k2,k3,some (.builtin "ValueError.__new__"),k5]:=by obtain⟨l⟩:=sl;exact congrArg Array.mk hs
   subst e;exact wpAny_call_exc_subU FV inV FV (tail_of_in X y4) (X _ _ ho) (.of_isNs (isNs_of_in X y5)) (nsMap_none_of_in X y5 y6) hq hz
  ·cases q
 ·cases q
end
section
variable {prog:Program}{w:World}{A:Around}{E:QC}{s:Shared}{env:Env}{K:Frag}
theorem zjR {x:Sem Value}{Q:Flow->Shared->Prop}(hh:A.handled=none)
  (h:wpAny (model prog w) A x (λv s₁=>∃e C t oe,v=.ref e/\K.In s₁.heap/\xIn K C=true/\s₁.heap.get? e=some oe/\oe.cls=.ref C/\oe.data=.fields #[.ref t,.none,.none,.none,.bool false,.none]/\E (.ref e) s₁) E s):
  wpAny (model prog w) A (raiseStmt env (some x) none) Q E s:=by
 unfold raiseStmt;refine Ja (wpAny_mono h (λv s₁ h₁=>?_) λ_ _ x=>x);obtain⟨e,C,t,oe,rfl,X,q,he,hc,hd,hE⟩:=h₁;obtain⟨nm,qn,N,bs,bm,hdc,sn,sub,ab,col,dd,k0,k1,k2,k3,k5,cO,tl⟩:=znb X q;have cB:(Value.ref C::bm).contains (.type "BaseException")=true:=by rw[List.contains_cons,tl.hasType (show bmV.contains (.type "BaseException")=true from by decide),Bool.or_true]
 obtain⟨hp,g,d,tk,os⟩:=s₁;obtain⟨c0,d0,dt,sl⟩:=oe;dsimp only at hc hd;subst hc;subst hd
 repeat (first | with_reducible refine wpAny_loadPart_at he ?_ | with_reducible refine wpAny_loadPart_at cO ?_ | (with_reducible refine wpAny_isSubtype_exc cO ?_;rw[cB]) | wp_step)
 exact wpAny_raiseNew_none hh hE
end
noncomputable def zcJ:List Value->Bool
 | []=>false
 | v::r=>(v::r)==bmV || (match v with | .ref _=>zcJ r | _=>false)
theorem zcb {P:List Value->Prop}(base:P bmV)(own:∀c r,P r->P (.ref c::r)):∀{l:QN},zcJ l=true->P l
 | [],e=>by cases e
 | v::r,e=>by
  unfold zcJ at e;rcases Bool.or_eq_true_iff.mp e with q | q
  ·rw[beq_iff_eq.mp q];exact base
  ·cases v <;> first | exact own _ _ (zcb base own q) | cases q
noncomputable def zd6 (K:Frag)(C:Addr):Bool:=(clsIn K C).any λcd=>zcJ cd.mro && cd.hasDict
theorem zjS (self:Value){l:QN}(e:zcJ l=true):refuseLoop self "__setattr__" l=pure ():=
 zcb (P:=λl=>refuseLoop self "__setattr__" l=pure ()) (PySem.F.store_ValueError.passes self) (λc r q=>by rw[refuseLoop_ref];exact q) e
theorem zox {v:Value}(hv:bmV.contains v=true){l:QN}(e:zcJ l=true):l.contains v=true:=
 zcb (P:=λl=>l.contains v=true) hv (λc r q=>by rw[List.contains_cons,q,Bool.or_true]) e
theorem zqG {l:QN}(e:zcJ l=true):l.isEmpty=false:=by
 cases l with
 | nil=>cases e
 | cons _ _=>rfl
section
variable {prog:Program}{w:World}{A:Around}{E:QC}{s:Shared}{K:Frag}{x C:Addr}{ox:Obj}{name:Str}{v:Value}
noncomputable abbrev _root_.Jy:=@Bool.and_eq_true_iff
theorem zj2 {M:Model}{od:Option Obj}{T:String}(X:K.In s.heap)(I:InstAt s.heap x ox C od)(hp:zd6 K C=true)(hT:bmV.contains (.type T)=true):Looks M s.heap (isInstance (.ref x) (.type T)) true:=by obtain⟨cd,hc,ho⟩:=any_some hp;obtain⟨o1,o2⟩:=Jy.mp ho;refine I.type.andThen (looks_mroIn X ?_);unfold mroIn;rw[hc,Option.bind_some,if_neg (by rw[zqG o1];decide),zox hT o1]
theorem zno {R:Result->Shared->Prop}{od:Option Obj}{tk:Tok}(X:K.In s.heap)(I:InstAt s.heap x ox C od)(hp:zd6 K C=true)(ht:findIn K (.ref C) name=some none)
  (h:∀b,wpAny (model prog w) A.in1 (storeInOwnDict (.ref x) (.ref C) (.str name tk) name v b)
   (λfin s'=>match fin with
    | .done f=>R (.ok f) s'
    | .again c'=>c'.quiet=true/\codeAny (model prog w) A c' R s') (λe s'=>R (.error e) s') s):
  codeAny (model prog w) A (.call (.builtin "object.__setattr__") ⟨[.ref x,.str name tk,v],[]⟩) R s:=by
 have FS:=PySem.F.store_ValueError;have isO:=zj2 (M:=model prog w) (T:= "object") X I hp (by decide);obtain⟨cd,hc,ho⟩:=any_some hp;obtain⟨o1,o2⟩:=Jy.mp ho;refine codeAny_call_builtin FS.slot.plain FS.entry (@check_slot (model prog w) _ _ s "object.__setattr__" "object" "__setattr__" (.ref x) [.str name tk,v] [] _ FS.kind FS.split isO (FS.args (.ref x) (.str name tk) v) ?_);have mr:Looks (model prog w) s.heap (mroOf (.ref C)) cd.mro:=(looks_clsIn X hc).andThen .now;rw[osa_eq,refuse_eq];refine Ja (Ja (I.type.here (Ja (mr.here ?_))));rw[zjS _ o1];have nt:Looks (model prog w) s.heap (storeTaker? none) none:=.now;refine wpAny_pure (Ja (I.type.here (Ja ((looks_findIn X ht).here (Ja (nt.here ?_))))));exact h _
theorem zp1 {Q:QD}{vs:Array Value}{sl:QJ}(X:K.In s.heap)(hx:s.heap.get? x=some ⟨.ref C,none,.fields vs,sl⟩)(hp:zd6 K C=true)
  (hs:findIn K (.ref C) "__setattr__" =some (some (.builtin "object.__setattr__"))) (ht:findIn K (.ref C) name=some none)
  (h:∀h' tk,h'.get? x=some ⟨.ref C,some s.heap.objs.size,.fields vs,sl⟩->h'.Ns1 s.heap.objs.size (λy=>if y=name then some v else none)->s.heap.objs.size<=h'.objs.size->
   (∀b o,b≠x->s.heap.get? b=some o->h'.get? b=some o)->Q () {s with heap:=h',toks:=tk}):wpAny (model prog w) A (setAttr (.ref x) name v) Q E s:=by
 have I:InstAt s.heap x ⟨.ref C,none,.fields vs,sl⟩ C none:=⟨hx,rfl,rfl,trivial⟩;obtain⟨cd,hc,ho⟩:=any_some hp;obtain⟨o1,o2⟩:=Jy.mp ho;refine set_plain X I hs (zno (s:={s with toks:=s.toks+1}) X I hp ht λb=>?_);refine Ja (wpAny_pure (Ja (Ja (wpAny_loadPart hx (Ja (Looks.here (s:={s with toks:=s.toks+1}) (looks_clsIn X hc) ?_))))));rw[o2];have hx1:(s.heap.push {cls:=.type "dict",data:=.dict #[]}).get? x=some ⟨.ref C,none,.fields vs,sl⟩:=Heap.get?_push_of_some _ hx;have xs:x≠s.heap.objs.size:=Jm (Heap.lt_size hx);refine Ja (wpAny_alloc' ?_);refine Ja (wpAny_update' hx1 ?_);refine wpAny_pure ?_;have gd:((s.heap.push {cls:=.type "dict",data:=.dict #[]}).update x λo=>{o with dict:=some s.heap.objs.size}).get? s.heap.objs.size=some {cls:=.type "dict",data:=.dict #[]}:=
  (Heap.get?_update_other _ _ xs).trans (Heap.get?_push_size _ rfl)
 have gx:((s.heap.push {cls:=.type "dict",data:=.dict #[]}).update x λo=>{o with dict:=some s.heap.objs.size}).get? x=some ⟨.ref C,some s.heap.objs.size,.fields vs,sl⟩:=
  Heap.get?_update_self _ hx1 rfl
 have nd:((s.heap.push {cls:=.type "dict",data:=.dict #[]}).update x λo=>{o with dict:=some s.heap.objs.size}).Ns s.heap.objs.size (λ_=>none):=
  ⟨_, #[],_,gd,rfl,λe he=>Ji he (by simp),λ_=>rfl⟩
 show wpAny _ _ (storeInDict s.heap.objs.size (.str name _) name v) _ _ _;unfold storeInDict newKeyGuard;refine Ja (wpAny_pure (Ja (wpAny_nsSet1 (Heap.Ns1.of_empty nd) λh' n' sb=>?_)));obtain⟨oD,esD,epD,q1,q2,q3⟩:=n'.count (Within.cons name v Within.nil);refine Ja (wpAny_lookBehind q1 (by rw[q2];exact pastItsLine_dict (Jn q3 (by rw[List.length_cons,List.length_nil,sizeLine_eq];omega))) ?_);refine wpAny_pure (h h' _ ((sb.2 x xs).trans gx) n' ?_ λb o bx e=>?_)
 ·rw[sb.1,Heap.size_after_update,Heap.size_push];exact Nat.le_succ _
 ·exact(sb.2 b (Jm (Heap.lt_size e))).trans ((Heap.get?_update_other _ _ (Ne.symm bx)).trans (Heap.get?_push_of_some _ e))
theorem zqr {Q:QD}{vs:Array Value}{sl:QJ}{dx:Addr}{mA:QB}{ns:QP}(X:K.In s.heap)(hx:s.heap.get? x=some ⟨.ref C,some dx,.fields vs,sl⟩)(hd:s.heap.Ns1 dx mA)(hp:zd6 K C=true)
  (hs:findIn K (.ref C) "__setattr__" =some (some (.builtin "object.__setattr__"))) (ht:findIn K (.ref C) name=some none) (hw:Within mA ns) (hz:ns.length<=sizeLine)
  (h:∀h' tk,h'.Ns1 dx (λy=>if y=name then some v else mA y)->Heap.SameBut dx s.heap h'->Q () {s with heap:=h',toks:=tk}):wpAny (model prog w) A (setAttr (.ref x) name v) Q E s:=by
 obtain⟨od,es0,ep0,g1,g2⟩:=id hd;have I:InstAt s.heap x ⟨.ref C,some dx,.fields vs,sl⟩ C (some od):=⟨hx,rfl,rfl,g1⟩;obtain⟨cd,hc,ho⟩:=any_some hp;obtain⟨o1,o2⟩:=Jy.mp ho;refine set_plain X I hs (zno (s:={s with toks:=s.toks+1}) X I hp ht λb=>?_);refine Ja (wpAny_pure (Ja (Ja (wpAny_loadPart hx (Ja (Looks.here (s:={s with toks:=s.toks+1}) (looks_clsIn X hc) ?_))))));rw[o2];refine wpAny_pure (a:=some dx) (Ja (wpAny_pure (Ja ?_)));refine wpAny_nsSet1 (s:={s with toks:=s.toks+1}) hd λh' n2 sb=>?_;obtain⟨oD,esD,epD,q1,q2,q3⟩:=n2.count (Within.cons name v hw);refine Ja (wpAny_lookBehind q1 (by rw[q2];exact pastItsLine_dict (Jn q3 (by rw[List.length_cons];omega))) ?_);exact wpAny_pure (h _ _ n2 sb)
theorem zrv {Q:QC}{expr:Bool}{od:Obj}(X:K.In s.heap)(I:InstAt s.heap x ox C (some od))(hp:zd6 K C=true)
  (hga:findIn K (.ref C) "__getattribute__" =some (some (.builtin "BaseException.__getattribute__"))) (hgn:findIn K (.ref C) "__getattr__" =some none)
  (hf:findObj K C (some od) name=some (.value v)) (hh:handedIn v=true) (h:Q v {s with toks:=s.toks+1}):wpAny (model prog w) A (getAttr (.ref x) name expr) Q E s:=by
 have isB:=zj2 (M:=model prog w) (T:= "BaseException") X I hp (by decide);obtain⟨hp',g,d,t,os⟩:=s;have L0:=I.type (M:=model prog w);have L1:=looks_findIn (M:=model prog w) X hga;have L2:=looks_findIn (M:=model prog w) X hgn;have L3:=looks_find (M:=model prog w) X I hf;have FB:=PySem.F.attrBase_ValueError;have bi:=FB.ga.bind (.ref x);have kd:builtinKind "BaseException.__getattribute__" =some .slot:=by decide+kernel
 have sp:splitId "BaseException.__getattribute__" =some ("BaseException","__getattribute__"):=by decide+kernel
 unfold getAttr getAttrBy;refine Ja (wpAny_mkText (wpAny_holding (Ja (L0.at (Ja (L1.at ?_))))));have nb:(onTheHeap (Value.ref C) && Value.builtin "BaseException.__getattribute__" ==Value.builtin "object.__getattribute__")=false:=by rw[show(Value.builtin "BaseException.__getattribute__" ==Value.builtin "object.__getattribute__")=false from by decide+kernel,Bool.and_false]
 dsimp only;rw[nb,if_neg Jh];unfold getAttrByItsOwn;refine Ja ?_;show wpAny _ _ (typeLookup (.ref C) "__getattr__") _ _ _;refine L2.at ?_;have ne:(expr && onTheHeap (Value.builtin "BaseException.__getattribute__"))=false:=by cases expr <;> rfl
 unfold callGetattribute;rw[ne,if_neg Jh];unfold boundAndCalled;refine Ja (wpAny_attempt (wpAny_holding ?_));rw[bi];refine Ja (wpAny_pure ?_);refine wpAny_call (codeAny_call_builtin FB.ga.plain PySem.F.entry_bexc_ga (@check_slot (model prog w) _ _ _ "BaseException.__getattribute__" "BaseException" "__getattribute__" (.ref x) [.str name t] [] _ kd sp isB (PySem.F.args_bexc_ga _ _) ?_));unfold Builtin.«object.__getattribute__»
 repeat (any_goals (first | assumption | with_reducible refine Ja (L0.at ?_) | with_reducible refine Ja (L3.at ?_) | wp_step))
 show wpAny _ _ (handedOut v) _ _ _;rw[handedOut_of hh];exact wpAny_pure h
end
end Px
namespace L2
open PySem PySem.Spec PyProof.Rows Px
noncomputable def exO (a C:Addr)(od:QM)(fr:Bool):HO:=.ext λh=>∃vs sl,h.get? a=some ⟨.ref C,od,.fields vs,sl⟩/\(fr=true->∃t,vs= #[.ref t,.none,.none,.none,.bool false,.none])
noncomputable def xdO (a:Addr)(fs:List (Str ×V)):HO:=.ext λh=>∃mA,h.Ns1 a mA/\(∀f,RelO (fs.lookup f) (mA f))/\PySem.Within mA (fs.map (·.1))
noncomputable def del (H:Hp)(a:Addr):Hp:=λb=>if b=a then none else H b
theorem zcf {H:Hp}{a:Addr}:del H a a=none:=by unfold del;rw[if_pos rfl]
theorem zbQ {H:Hp}{a b:Addr}(h:b≠a):del H a b=H b:=by unfold del;rw[if_neg h]
theorem zhQ {H:Hp}{a:Addr}{o:HO}(h:H a=none):del (upd H a o) a=H:=by
 funext b;unfold del upd;by_cases e:b=a
 ·rw[if_pos e,e,h]
 ·rw[if_neg e,if_neg e]
section
variable {P:Program}{w:World}{H H':Hp}{h h' h2:Heap}{a C:Addr}{o:HO}{fs ex fs':QO}{own:Addr->Prop}
theorem zh4 {od:QM}{fr:Bool}{vs:Array Value}{sl:QJ}(e:h.get? a=some ⟨.ref C,od,.fields vs,sl⟩)(f:fr=true->∃t,vs= #[.ref t,.none,.none,.none,.bool false,.none]):zZ P w H h a (exO a C od fr):=
 ⟨⟨vs,sl,e,f⟩,⟨_,e⟩,λ_ _ ⟨vs,sl,e,f⟩ k=>⟨vs,sl,k _ e,f⟩⟩
theorem zcE {od:QM}{fr:Bool}(ok:HOk P w H h)(e:H a=some (exO a C od fr)):∃vs sl,h.get? a=some ⟨.ref C,od,.fields vs,sl⟩/\(fr=true->∃t,vs= #[.ref t,.none,.none,.none,.bool false,.none]):=
 (show zZ P w H h a (exO a C od fr) from ok a _ e).1
theorem znn {l:List (Str ×V)}{mA:QB}(n:h.Ns1 a mA)(r:∀f,RelO (l.lookup f) (mA f))(wi:PySem.Within mA (l.map (·.1))):zZ P w H h a (xdO a l):=
 ⟨⟨mA,n,r,wi⟩,let ⟨o,_,_,e,_⟩:=n;⟨o,e⟩,λ_ _ ⟨mA,n,r,wi⟩ k=>⟨mA,n.at k,r,wi⟩⟩
theorem zkU {l:List (Str ×V)}(ok:HOk P w H h)(e:H a=some (xdO a l)):∃mA,h.Ns1 a mA/\(∀f,RelO (l.lookup f) (mA f))/\PySem.Within mA (l.map (·.1)):=
 (show zZ P w H h a (xdO a l) from ok a _ e).1
theorem HOk.track (x:HOk P w H h)(n:H a=none)(new:zZ P w (upd H a o) h a o):HOk P w (upd H a o) h:=λb u e=>by
 by_cases hb:b=a
 ·subst hb;rw[zj] at e;cases e;exact new
 ·rw[zl hb] at e;exact(x b u e).stay (λ_ _ _ q=>q) (λc q=>by rw[zl (zo q n)];exact q) λc xs q=>by rw[zl (zo q n)];exact q
theorem Un.track (u:Un fs ex H H' h h')(n:H' a=none)(nw:∀ob,h.get? a=some ob->a∈ex\/H a≠none):Un fs ex H (upd H' a o) h h' where
 keep:=u.keep
 slot:=u.slot
 free:=λb ob q m hx=>by
  rw[zl]
  ·exact u.free b ob q m hx
  ·intro e;subst e;rcases nw ob q with z | z
   ·exact hx z
   ·exact z m
 there:=u.there
 tups:=λb xs q=>by rw[zl (zo (u.tups b xs q) n)];exact u.tups b xs q
 frzs:=λb ob v q=>by rw[zl (zo (u.frzs b ob v q) n)];exact u.frzs b ob v q
 tbls:=λb ps q=>by obtain⟨m,e⟩:=u.tbls b ps q;exact⟨m,by rw[zl (zo e n)];exact e⟩
theorem HOk.drop {φ:Heap->Prop}(x:HOk P w H h)(e:H a=some (.ext φ)):HOk P w (del H a) h:=λb u q=>by
 by_cases hb:b=a
 ·rw[hb,zcf] at q;cases q
 ·rw[zbQ hb] at q;exact(x b u q).stay (λ_ _ _ z=>z) (λc z=>by rw[zbQ (zbz z e (by intro y;cases y))];exact z) λc xs z=>by rw[zbQ (zbz z e (by intro y;cases y))];exact z
theorem Un.drop {φ:Heap->Prop}(u:Un fs ex H H' h h')(e:H' a=some (.ext φ)):Un fs ex H (del H' a) h h' where
 keep:=u.keep
 slot:=u.slot
 free:=λb ob q m hx=>by
  by_cases hb:b=a
  ·rw[hb];exact zcf
  ·rw[zbQ hb];exact u.free b ob q m hx
 there:=u.there
 tups:=λb xs q=>by rw[zbQ (zbz (u.tups b xs q) e (by intro y;cases y))];exact u.tups b xs q
 frzs:=λb ob v q=>by rw[zbQ (zbz (u.frzs b ob v q) e (by intro y;cases y))];exact u.frzs b ob v q
 tbls:=λb ps q=>by obtain⟨m,z⟩:=u.tbls b ps q;exact⟨m,by rw[zbQ (zbz z e (by intro y;cases y))];exact z⟩
theorem Un.chg (u:Un fs ex H H' h h')(c:Chg2 fs' own h' h2)(hfs:∀b ob,h.get? b=some ob->b∈fs'->b∈fs)
  (nw:∀b,own b->h.get? b=none\/(H b≠none/\∃o',h2.get? b=some o')):Un fs ex H H' h h2:=by
 have no:∀b ob,h.get? b=some ob->H b=none->¬own b:=λb ob q n z=>by
  rcases nw b z with y | y
  ·rw[y] at q;cases q
  ·exact y.1 n
 refine⟨λb ob q n hb hx=>c.keep b ob (u.keep b ob q n hb hx) (λz=>hb (hfs b ob q z)) (no b ob q n),λb ob q n hb hx=>?_,u.free,λb ob q hx=>?_,u.tups,u.frzs,u.tbls⟩
 ·obtain⟨sl,e⟩:=u.slot b ob q n hb hx;by_cases z:b∈fs'
  ·obtain⟨s2,e2⟩:=c.slot b _ e z (no b ob q n);exact⟨s2,e2⟩
  ·exact⟨sl,c.keep b _ e z (no b ob q n)⟩
 ·obtain⟨o',e⟩:=u.there b ob q hx;by_cases y:own b
  ·rcases nw b y with z | z
   ·rw[z] at q;cases q
   ·exact z.2
  ·by_cases z:b∈fs'
   ·obtain⟨s2,e2⟩:=c.slot b _ e z y;exact⟨_,e2⟩
   ·exact⟨_,c.keep b _ e z y⟩
theorem HOk.chg (x:HOk P w H h)(c:Chg2 fs' own h h2)(n1:∀b,own b->H b=none)(n2:∀b∈fs',H b=none):HOk P w H h2:=λb u e=>by
 have k:∀c' v,(∃z,H c'=some z)->h.get? c'=some v->h2.get? c'=some v:=λc' v ⟨z,hz⟩ q=>
  c.keep c' v q (λm=>by rw[n2 c' m] at hz;cases hz) (λm=>by rw[n1 c' m] at hz;cases hz)
 refine(x b u e).stay (λc' v hc q=>k c' v ?_ q) (λ_ q=>q) λ_ _ q=>q;rcases hc with z | z
 ·rw[z];exact⟨_,e⟩
 ·exact⟨_,z⟩
end
section
variable {X:Cx}{pins:QE}{σ:St}{H:Hp}{s:Shared}{h':Heap}
theorem zZ.thereN {P:Program}{w:World}{H:Hp}{h:Heap}{a:Addr}{u:HO}(x:zZ P w H h a u):∃ob,h.get? a=some ob:=by
 cases u with
 | lst xs=>obtain⟨_,_,_,_,e⟩:=x;exact⟨_,e⟩
 | tup xs=>obtain⟨_,_,_,ob,e,_⟩:=x;exact⟨_,e⟩
 | dK kvs=>obtain⟨_,_,_,_,o,_,_,e,_⟩:=x;exact⟨_,e⟩
 | dT kvs=>obtain⟨_,_,_,_,o,_,_,e,_⟩:=x;exact⟨_,e⟩
 | set S n=>obtain⟨o,_,_,_,e,_⟩:=x;exact⟨_,e⟩
 | ins C dx fs=>obtain⟨_,_,_,e,_⟩:=x;exact⟨_,e⟩
 | own y=>exact x
 | xd fs=>obtain⟨_,⟨_,_,_,e,_⟩,_⟩:=x;exact⟨_,e⟩
 | rng lo hi=>obtain⟨_,_,_,e⟩:=x;exact⟨_,e⟩
 | frz ob u=>obtain⟨e,_⟩:=x;exact⟨_,e⟩
 | tbl ps=>exact⟨_,(show h.get? a=some _ from x)⟩
 | met f y=>exact⟨_,(show h.get? a=some _ from x)⟩
 | ext φ=>exact x.2.1
theorem HOk.noneN {P:Program}{w:World}{H:Hp}{h:Heap}{a:Addr}(x:HOk P w H h)(n:h.get? a=none):H a=none:=by
 cases q:H a with
 | none=>rfl
 | some u=>obtain⟨ob,z⟩:=(x a u q).thereN;rw[n] at z;cases z
theorem Inv.laidN {a:Addr}{o:HO}{t':Nat}(I:Inv X pins σ H s)(k:∀b u,s.heap.get? b=some u->h'.get? b=some u)(hp:s.heap.get? a=none)(new:zZ X.prog X.w (upd H a o) h' a o):
  Inv X pins σ (upd H a o) {s with heap:=h',toks:=t'}:=by
 have n:H a=none:=I.hok.noneN hp;exact I.un ((Un.kept k).track n λob q=>by rw[hp] at q;cases q) ((I.hok.kept k).track n new)
end
def CX1 (P:Program)(w:World):CXT:=λouter H s E e s'=>∃(ea:Addr) (cls:Value) (od:QM) (H':Hp) (T:Addr),e=.ref ea/\s'.os=s.os/\AllBare s'.gens/\Un (frs outer) [] H H' s.heap s'.heap/\HOk P w H' s'.heap/\
 Tb s'.heap ea cls od T .none/\(s.heap.get? ea=none\/H ea≠none)/\s.heap.get? T=none/\H' ea=none/\H' T=none/\E cls od H'
theorem zcn {fs ex:QO}{H H':Hp}{h h':Heap}{b:Addr}(u:Un fs ex H H' h h')(hx:b∉ex)(n:h'.get? b=none):h.get? b=none:=by
 cases q:h.get? b with
 | none=>rfl
 | some o=>obtain⟨o',e⟩:=u.there b o q hx;rw[n] at e;cases e
section
variable {P:Program}{w:World}{K:QA}{mg:QB}{base:Heap}{N:QP}{qual:Str}{scope:Scope}{f:Addr}{cd:Value}{A:Around}{outer:List Env}{s₀:Shared}{H₀:Hp}{E:XK}
def zje (X:Cx)(E:XK):Prop:=∀(pins:QE) (σ:St) (H:Hp) (s:Shared) (e C:Addr) (od:QM),Inv X pins σ H s->H e=some (exO e C od true)->E (.ref C) od (del H e)->X.xe (.ref e) s
theorem zge:zje (cxOf (CX1 P w) P w K mg base N qual scope f cd A outer s₀ H₀ E) E:=by
 intro pins σ H s e C od I he q;obtain⟨vs,sl,ge,fr⟩:=zcE I.hok he;obtain⟨t,rfl⟩:=fr rfl;show wpAny (model P w) (A.deeper _) (leaving _ (.ref e)) _ _ s;refine zqP (base:=base) I.ok.frames I.stack rfl ge rfl rfl λh' T' z tb c=>?_;have nT:s.heap.get? T'=none:=Heap.get?_none_of_le z;have old:s₀.heap.get? e=none\/H₀ e≠none:=by
  cases q1:s₀.heap.get? e with
  | none=>exact .inl rfl
  | some ob=>refine .inr λn=>?_;have:=I.base.free e ob q1 n (by intro z;cases z);rw[he] at this;cases this
 have fr2:∀b∈frs (envOfC qual scope s₀.heap.objs.size f cd::outer),H b=none:=I.stkFree;have te:∃o',h'.get? e=some o':=let ⟨oe,_,_,_,y,_⟩:=tb;⟨oe,y⟩;refine⟨e,.ref C,od,del H e,T',rfl,I.os,I.bare,?_,?_,tb,old,zcn I.base (by intro z;cases z) nT,zcf,?_,q⟩
 ·refine(I.base.drop he).chg (fs':=frs (envOfC qual scope s₀.heap.objs.size f cd::outer)) c (λb ob q1 q2=>?_) λb y=>?_
  ·have lt:=Heap.lt_size q1;rcases List.mem_cons.mp (I.stkSub b q2) with y | y
   ·exact Ji lt (by rw[y];exact Nat.not_lt.mpr (Jb _))
   ·exact y
  ·subst y;rcases old with y | y
   ·exact .inl y
   ·exact .inr ⟨y,te⟩
 ·refine(I.hok.drop he).chg c (λb y=>by rw[y];exact zcf) λb y=>?_;by_cases hb:b=e
  ·rw[hb];exact zcf
  ·rw[zbQ hb];exact fr2 b y
 ·have:H T'=none:=I.hok.fresh z;by_cases hb:T'=e
  ·rw[hb];exact zcf
  ·rw[zbQ hb];exact this
def zel (CX:CXT)(X:Cx)(E:St->XK):Prop:=∀(pins:QE) (σ:St) (H:Hp) (s:Shared) (e:Value) (s':Shared),Inv X pins σ H s->CX X.stack H s (E σ) e s'->X.xe e s'
theorem zK:zbC (CX1 P w) (cxOf (CX1 P w) P w K mg base N qual scope f cd A outer s₀ H₀ E) E:=by
 intro pins σ H s e s' I0 hc;obtain⟨ea,cls,od,H',T,rfl,os,bare,un,hok,tb,old,nT,u1,u2,q⟩:=hc;have I:=I0.call' os un hok bare (λb z=>nomatch z);show wpAny (model P w) (A.deeper _) (leaving _ (.ref ea)) _ _ s';refine zqd (base:=base) I.ok.frames I.stack rfl tb λh' T' z tb' c=>?_;have nT':s'.heap.get? T'=none:=Heap.get?_none_of_le z;have old':s₀.heap.get? ea=none\/H₀ ea≠none:=by
  cases q1:s₀.heap.get? ea with
  | none=>exact .inl rfl
  | some ob=>
   refine .inr λn=>?_;rcases old with y | y
   ·have y':s₀.heap.get? ea=none:=zcn I0.base (by intro z;cases z) y;rw[y'] at q1;cases q1
   ·exact y (I0.base.free ea ob q1 n (by intro z;cases z))
 have te:∃o',h'.get? ea=some o':=let ⟨oe,_,_,_,y,_⟩:=tb';⟨oe,y⟩
 have n0:s₀.heap.get? T=none:=zcn I0.base (by intro z;cases z) nT;refine⟨ea,cls,od,H',T',rfl,I.os,I.bare,?_,?_,tb',old',zcn I.base (by intro z;cases z) nT',u1,hok.fresh z,q⟩
 ·refine I.base.chg (fs':=frs (envOfC qual scope s₀.heap.objs.size f cd::outer)) c (λb ob q1 q2=>?_) λb y=>?_
  ·have lt:=Heap.lt_size q1;rcases List.mem_cons.mp (I.stkSub b q2) with y | y
   ·exact Ji lt (by rw[y];exact Nat.not_lt.mpr (Jb _))
   ·exact y
  ·rcases y with y | y
   ·subst y;rcases old' with y | y
    ·exact .inl y
    ·exact .inr ⟨y,te⟩
   ·subst y;exact .inl n0
 ·refine hok.chg c (λb y=>?_) I.stkFree;rcases y with y | y
  ·rw[y];exact u1
  ·rw[y];exact u2
end
end L2
namespace L2
open PySem PySem.Spec PyProof.Rows Px
structure XCls (K:QA)(C:Addr):Prop where
 q:xIn K C=true
 ov:zd6 K C=true
 sa:PySem.W.findIn K (.ref C) "__setattr__" =some (some (.builtin "object.__setattr__"))
 ga:PySem.W.findIn K (.ref C) "__getattribute__" =some (some (.builtin "BaseException.__getattribute__"))
 gn:PySem.W.findIn K (.ref C) "__getattr__" =some none
 kp:PySem.W.keepIn K (.ref C)=true
theorem XCls.hd {K:QA}{C:Addr}(c:XCls K C):PySem.W.hasDictIn K C=true:=by obtain⟨cd,hc,ho⟩:=PySem.W.any_some c.ov;unfold PySem.W.hasDictIn;rw[hc];exact(Jy.mp ho).2
def tExc (C:Addr)(t:TA):TE:=fun σ H Q=>t σ H λvs H1=>vs.length<=sizeLine/\∀e,H1 e=none->Q (.ref e) (upd H1 e (exO e C none true))
def zpC (C:Addr)(sp:Sp)(t:TA):TE:=fun σ H Q=>t σ H λvs H1=>vs.length<=sizeLine/\∀x,H1 x=none->sp (.ref x::vs) (upd H1 x (exO x C none true)) (λv H2=>v=.non/\Q (.ref x) H2) E0
section
variable {X:Cx}{k:Nat}{f C:Addr}{fd:FuncData}{ps:QP}{sp:Sp}{x:Str}{p pos:Pos}{e:Expr}{es:List Expr}{t:TA}
theorem zqh (c:XCls X.K C)(hq:PySem.W.excIn X.K C bmV "ValueError.__new__" =true) (hg:Gl X x) (hm:X.mg x=some (.ref C)) (ha:PA X (e::es) t)
  (hdb:(x==("__debug__" :Str))=false:=by decide) (he:starEach (e::es) X.env=(false,eval e X.env)::starEach es X.env:=by rfl) (hpl:(backTo pos (starEach es X.env)).any (·.1)=false:=by rfl):
  PE X (.Call (.Name x p) (e::es) [] pos) (tExc C t):=by
 intro pins s σ H Q I h;refine wpAny_Call_Name_kw (zb2 I hg hm ?_ hdb);refine PySem.W.callWith_K (h₀:=X.base) I.ok.mod.kin c.kp (thn (ha pos pins s σ H _ I h) λus s1 ⟨vs,H1,I1,r,z,q⟩=>⟨I1.kIn,?_⟩) he hpl;refine zjW I1.kIn hq (λh' ea mk=>?_) (show us.length<=sizeLine by rw[<-r.length];exact z);obtain⟨t,ge,nt,gt⟩:=mk.there;exact⟨.ref ea,_,I1.laidN (t':=s1.toks) mk.keeps mk.new (zh4 ge λ_=>⟨t,rfl⟩),rfl,q ea (I1.hok.noneN mk.new)⟩
theorem zoS (c:XCls X.K C)(hi:PySem.W.findIn X.K (.ref C) "__init__" =some (some (.ref f))) (hf:PySem.W.isFn X.K (.ref f)=true) (F:FnOk X.prog X.w X.K X.mg X.base CX0 k f fd ps sp) (hr:Room (k+1) X.A) (hb:Binds X.K fd ps [])
  (hg:Gl X x) (hm:X.mg x=some (.ref C)) (ha:PA X (e::es) t)
  (hdb:(x==("__debug__" :Str))=false:=by decide) (he:starEach (e::es) X.env=(false,eval e X.env)::starEach es X.env:=by rfl) (hpl:(backTo pos (starEach es X.env)).any (·.1)=false:=by rfl):
  PE X (.Call (.Name x p) (e::es) [] pos) (zpC C sp t):=by
 intro pins s σ H Q I h;refine wpAny_Call_Name_kw (zb2 I hg hm ?_ hdb);refine PySem.W.callWith_K (h₀:=X.base) I.ok.mod.kin c.kp (thn (ha pos pins s σ H _ I h) λus s1 ⟨vs,H1,I1,r,z,q⟩=>⟨I1.kIn,?_⟩) he hpl;have I2:Inv X pins σ (upd H1 (s1.heap.objs.size+1) (exO (s1.heap.objs.size+1) C none true)) {s1 with heap:=zbu s1.heap C us}:=
  I1.laidN (t':=s1.toks) (λ_ _ y=>zcF y) (Heap.get?_none_of_le (Nat.le_succ _)) (zh4 zgj λ_=>⟨_,rfl⟩)
 have hq:=q (s1.heap.objs.size+1) (I1.hok.fresh (Nat.le_succ _));have r2:Vals (V.ref (s1.heap.objs.size+1)::vs) (Value.ref (s1.heap.objs.size+1)::us):=.cons rfl r;have hl:((Value.ref (s1.heap.objs.size+1)::us)++ []).length=ps.length:=by rw[List.append_nil,<-r2.length];exact F.len _ _ _ _ hq
 have hz:us.length<=sizeLine:=by rw[<-r.length];exact z
 obtain⟨h1,g1,d1,t1,o1⟩:=s1;refine zlN I1.kIn c.q hi (beq_iff_eq.mp hf) ?_ hz;have hbb:=hb _ (Value.ref (h1.objs.size+1)::us) I2.kIn hl;rw[List.append_nil] at hbb;refine wpAny_call (codeAny_mono (F.run _ X.stack _ _ ⟨Value.ref (h1.objs.size+1)::us,[]⟩ (Value.ref (h1.objs.size+1)::us) _ _ E0 (hr.make C us []) (I2.env0.make C us []) hbb r2 hq) λr s' hq'=>?_);cases r with
 | error e=>exact False.elim hq'
 | ok fl=>
  cases fl with
  | ret u=>obtain⟨v,H',I3,rv,ev,q3⟩:=I2.after hq';subst ev;exact⟨rv,⟨V.ref (h1.objs.size+1),H',I3,rfl,q3⟩⟩
  | next=>exact False.elim hq'
  | brk=>exact False.elim hq'
  | cont=>exact False.elim hq'
end
def zp6 (K:QA)(te:TE)(E:XK):TS:=λD σ H=>te σ H λv H1=>∃e C od,v=.ref e/\H1 e=some (exO e C od true)/\xIn K C=true/\E (.ref C) od (del H1 e)
theorem zgQ {X:Cx}{E:XK}{ex:Expr}{te:TE}{pos:Pos}(hx:zje X E)(hc:X.calm=true)(he:PE X ex te):PS X (.Raise (some ex) none pos) (zp6 X.K te E):=by intro pins s σ H D I h;rw[arm_exec_Raise];refine Ja (wpAny_standAt ?_);refine zjR (K:=X.K) (I.ok.hd hc) ?_;refine Ja (wpAny_mono (he pins s σ H _ I h) (λv s1 hv=>Ja (wpAny_standAt (wpAny_pure ?_))) λ_ _ z=>z);obtain⟨y,H1,I1,ry,ea,C,od,rfl,hea,qC,hE⟩:=hv;obtain rfl:v=Value.ref ea:=ry;obtain⟨vs,sl,ge,fr⟩:=zcE I1.hok hea;obtain⟨t,rfl⟩:=fr rfl;exact⟨ea,C,t,_,rfl,I1.kIn,qC,ge,rfl,rfl,hx pins σ H1 s1 ea C od I1 hea hE⟩
def sXF1 (K:QA)(ta tv:TE)(f:Str):TS:=λD σ H=>tv σ H λy H1=>ta σ H1 λx H2=>∃a C fr,x=.ref a/\H2 a=some (exO a C none fr)/\XCls K C/\zR K C f/\
 ∀d,H2 d=none->d≠a->D.nx σ (upd (upd H2 d (xdO d [(f,y)])) a (exO a C (some d) fr))
def sXF2 (K:QA)(ta tv:TE)(f:Str):TS:=λD σ H=>tv σ H λy H1=>ta σ H1 λx H2=>∃a C fr d l,x=.ref a/\H2 a=some (exO a C (some d) fr)/\H2 d=some (xdO d l)/\d≠a/\XCls K C/\zR K C f/\l.length < 1000/\
 D.nx σ (upd H2 d (xdO d (putF f y l)))
def tXG (K:QA)(ta:TE)(f:Str):TE:=fun σ H Q=>ta σ H λx H1=>∃a C fr d l v,x=.ref a/\H1 a=some (exO a C (some d) fr)/\H1 d=some (xdO d l)/\XCls K C/\zR K C f/\l.lookup f=some v/\Q v H1
section
variable {X:Cx}{o e value:Expr}{f:Str}{pos pos':Pos}{ta tv:TE}
theorem zp4 (ha:PE X o ta)(hv:PE X value tv)(hs:swapsWith value (some (.Attribute o f pos')) pos.line X.env=pure false):PS X (.Assign [.Attribute o f pos'] value pos) (sXF1 X.K ta tv f):=by
 intro pins s σ H D I h;refine plainObj_wpAny_Assign_Attribute (thn (hv pins s σ H _ I h) λu s1 ⟨y,H1,I1,ry,q⟩=>thn (ha pins s1 σ H1 _ I1 q) λov s2 ⟨x,H2,I2,rx,a,C,fr,ex,ea,c,n,q2⟩=>?_) hs;subst ex;obtain rfl:ov=Value.ref a:=rx;obtain⟨vs,sl,ge,hfr⟩:=zcE I2.hok ea;refine zp1 I2.kIn ge c.ov c.sa n λh' tk gx nd sz kp=>?_;have nd0:H2 s2.heap.objs.size=none:=I2.hok.fresh (Jb _);have da:s2.heap.objs.size≠a:=Ne.symm (Jm (Heap.lt_size ge));have na:∀b,H2 b=none->b≠a:=λb z y=>by rw[y,ea] at z;cases z
 refine⟨σ,_,?_,q2 _ nd0 da⟩;refine I2.un (h':=h') (t':=tk) ⟨λb ob g z _ _=>kp b ob (na b z) g,λb ob g z _ _=>⟨ob.slots,kp b ob (na b z) g⟩,λb ob g z _=>?_,λb ob g _=>?_,λb xs g=>?_,λb ob v g=>?_,λb ps g=>?_⟩ λb w g=>?_
 ·rw[zl (na b z),zl (Jm (Heap.lt_size g))];exact z
 ·by_cases y:b=a
  ·rw[y];exact⟨_,gx⟩
  ·exact⟨_,kp b ob y g⟩
 ·rw[zl (zbz g ea (by intro y;cases y)),zl (zo g nd0)];exact g
 ·rw[zl (zbz g ea (by intro y;cases y)),zl (zo g nd0)];exact g
 ·exact⟨#[],by rw[zl (zbz g ea (by intro y;cases y)),zl (zo g nd0),g];simp⟩
 ·by_cases yy:b=a
  ·subst yy;rw[zj] at g;cases g;exact zh4 gx hfr
  ·rw[zl yy] at g;by_cases y2:b=s2.heap.objs.size
   ·subst y2;rw[zj] at g;cases g;refine znn nd (λj=>?_) λj hj=>?_
    ·show RelO ([(f,y)].lookup j) _;by_cases e:j=f
     ·have hb:(j==f)=true:=beq_iff_eq.mpr e;rw[if_pos e];simp only[List.lookup,hb]
      assumption
     ·have hb:(j==f)=false:=beq_eq_false_iff_ne.mpr e;rw[if_neg e];simp only[List.lookup,hb];exact True.intro
    ·by_cases e:j=f
     ·rw[e];exact List.mem_cons_self
     ·rw[if_neg e] at hj;exact Ji rfl hj
   ·rw[zl y2] at g;refine(I2.hok b w g).stay (λc' v hc gg=>kp c' v ?_ gg) (λc' z=>?_) λc' xs z=>?_
    ·rcases hc with z | z
     ·rw[z];exact yy
     ·exact zbz z ea (by intro y;cases y)
    ·rw[zl (zbz z ea (by intro y;cases y)),zl (zo z nd0)];exact z
    ·rw[zl (zbz z ea (by intro y;cases y)),zl (zo z nd0)];exact z
theorem zpW (ha:PE X o ta)(hv:PE X value tv)(hs:swapsWith value (some (.Attribute o f pos')) pos.line X.env=pure false):PS X (.Assign [.Attribute o f pos'] value pos) (sXF2 X.K ta tv f):=by
 intro pins s σ H D I h;refine plainObj_wpAny_Assign_Attribute (thn (hv pins s σ H _ I h) λu s1 ⟨y,H1,I1,ry,q⟩=>thn (ha pins s1 σ H1 _ I1 q) λov s2 ⟨x,H2,I2,rx,a,C,fr,d,l,ex,ea,ed,da,c,n,ll,q2⟩=>?_) hs;subst ex;obtain rfl:ov=Value.ref a:=rx;obtain⟨vs,sl,ge,hfr⟩:=zcE I2.hok ea;obtain⟨mA,ns,rl,wi⟩:=zkU I2.hok ed;have hz:(l.map (·.1)).length<=sizeLine:=by rw[List.length_map,sizeLine_eq];omega
 refine zqr I2.kIn ge ns c.ov c.sa n wi hz λh' tk nd sb=>?_;have hd:∃o,h'.get? d=some o:=let ⟨o,_,_,e',_⟩:=nd;⟨o,e'⟩;refine⟨σ,_,I2.write (x:=d) (e:=d) (t':=tk) (by rw[ed];exact True.intro) (.inl rfl) (λb w hb z=>(sb.2 b hb).trans z) hd (znn nd (λg=>?_) λg hg=>?_),q2⟩
 ·rw[zdl];by_cases z:g=f
  ·rw[if_pos z,if_pos z];exact ry
  ·rw[if_neg z,if_neg z];exact rl g
 ·by_cases z:g=f
  ·rw[z];exact(zcg f y l).1
  ·refine(zcg f y l).2 g (wi g λw=>hg ?_);show(if g=f then some u else mA g)=none;rw[if_neg z];exact w
theorem zra (he:PE X e ta)(hb:attributeBase e f X.env (eval e X.env)=eval e X.env):PE X (.Attribute e f pos) (tXG X.K ta f):=by intro pins s σ H Q I h;refine zkB hb (thn (he pins s σ H _ I h) λu s1 ⟨x,H1,I1,rx,a,C,fr,d,l,v,ex,ea,ed,c,n,lk,q⟩=>?_);subst ex;obtain rfl:u=Value.ref a:=rx;obtain⟨vs,sl,ge,hfr⟩:=zcE I1.hok ea;obtain⟨mA,ns,rl,wi⟩:=zkU I1.hok ed;obtain⟨w,hw,rw'⟩:=RelO.some_of (v:=v) (o:=mA f) (by rw[<-lk];exact rl f);obtain⟨ob,hob,hl⟩:=zhe ns;have J:PySem.W.InstAt s1.heap a ⟨.ref C,some d,.fields vs,sl⟩ C (some ob):=⟨ge,rfl,rfl,hob⟩;exact zrv I1.kIn J c.ov c.ga c.gn (PySem.W.findObj_own c.hd n rfl (by rw[hl,hw])) (zhy rw') ⟨v,H1,I1.tok _,rw',q⟩
end
def znZ (sp:Sp)(E:St->XK)(t:TA):TE:=fun σ H Q=>t σ H λvs H1=>sp vs H1 Q (E σ)
section
variable {X:Cx}{CX:CXT}{k:Nat}{f C:Addr}{fd:FuncData}{ps:QP}{sp:Sp}{E:St->XK}{x m:Str}{p pos apos:Pos}{e o:Expr}{es:List Expr}{ta:TE}{t:TA}
theorem zo0 {pins:QE}{σ:St}{H:Hp}{s:Shared}{Q:VK}{us:QN}{vs:QQ}(F:FnOk X.prog X.w X.K X.mg X.base CX k f fd ps sp)(hr:Room k X.A)(hb:Binds X.K fd ps [])(hx:zel CX X E)
  (I:Inv X pins σ H s) (r:Vals vs us) (h:sp vs H Q (E σ)):wpAny (model X.prog X.w) X.A (call (.ref f) us) (EP X pins σ Q) X.xe s:=by
 have hl:(us++ []).length=ps.length:=by rw[List.append_nil,<-r.length];exact F.len _ _ _ _ h
 have hbb:=hb s us I.kIn hl;rw[List.append_nil] at hbb;refine wpAny_call (codeAny_mono (F.run X.A X.stack s H ⟨us,[]⟩ us vs Q (E σ) hr I.env0 hbb r h) λr s' hq=>?_);cases r with
 | error e=>exact hx pins σ H s e s' I hq
 | ok fl=>
  cases fl with
  | ret u=>exact I.after hq
  | next=>exact False.elim hq
  | brk=>exact False.elim hq
  | cont=>exact False.elim hq
theorem zm1 (F:FnOk X.prog X.w X.K X.mg X.base CX k f fd ps sp)(hr:Room k X.A)(hg:Gl X x)(hm:X.mg x=some (.ref f))(hk:PySem.W.keepIn X.K (.ref f)=true)(hb:Binds X.K fd ps [])(hx:zel CX X E)
  (ha:PA X (e::es) t) (hdb:(x==("__debug__" :Str))=false:=by decide) (he:starEach (e::es) X.env=(false,eval e X.env)::starEach es X.env:=by rfl) (hpl:(backTo pos (starEach es X.env)).any (·.1)=false:=by rfl):
  PE X (.Call (.Name x p) (e::es) [] pos) (znZ sp E t):=by
 intro pins s σ H Q I h;refine wpAny_Call_Name_kw (zb2 I hg hm ?_ hdb);refine PySem.W.callWith_K (h₀:=X.base) I.ok.mod.kin hk (thn (ha pos pins s σ H _ I h) λus s1 ⟨vs,H1,I1,r,q⟩=>⟨I1.kIn,?_⟩) he hpl;exact zo0 F hr hb hx I1 r q
end
theorem Fun.okX {P:Program}{w:World}{K:QA}{mg:QB}{base:Heap}{x qual:Str}{st:Stmt}{f:Addr}{fd:FuncData}{N ps:QP}{k:Nat}{sp:Sp}(F:Fun K x qual st f fd)(S:zr N ps (zh st))(len:∀vs H Q E,sp vs H Q E->vs.length=ps.length)
  (hbody:∀(cdv:Value) (A:Around) (outer:List Env) (s:Shared) (H:Hp) (vs:QQ) (Q:VK) (E:XK),Room k (A.deeper (envOfC qual (zh st) s.heap.objs.size f cdv))->sp vs H Q E->
   ∃t,PSs (cxOf (CX1 P w) P w K mg base N qual (zh st) f cdv A outer s H E) (zM st) t/\t {nx:=λ_ H'=>Q .non H',rt:=Q} (start N vs) H):FnOk P w K mg base (CX1 P w) (k+1) f fd ps sp:=by
 obtain⟨oc,od,kV,doc,pm,an,cdv,ct,osl,rfl,lk,hcd⟩:=F.ex;exact zpN lk hcd S len λA outer s H vs Q E hr hsp=>hbody cdv A outer s H vs Q E hr hsp
noncomputable abbrev Cx.tried (X:Cx)(xe:QC)(pn:QE):Cx:={X with xe:=xe,pn:=pn}
noncomputable abbrev Cx.suite (X:Cx)(e:Addr):Cx:={X with A:=X.A.mark (some (.ref e)),calm:=false,xe:=λ_ _=>False}
section
variable {X:Cx}{pins pins':QE}{σ:St}{H:Hp}{s:Shared}{xe:QC}
theorem Inv.tried (I:Inv X pins σ H s)(xe:QC):Inv (X.tried xe (X.pn++pins)) [] σ H s:=
 ⟨⟨I.ok.mod,I.ok.kind,I.ok.glob,I.ok.blt,I.ok.above,I.ok.inj,I.ok.has,I.ok.cab,I.ok.hd,I.ok.frames,I.ok.stk,I.ok.exf,I.ok.bs,I.ok.bsz,I.ok.noex,I.ok.exfs,I.ok.funs,I.ok.frf⟩,
  I.os,I.bare,I.base,I.loc,I.cell,I.free,I.freeC,λp hp=>I.pin p (by simpa using hp),I.hok,I.len⟩
theorem Inv.untried (I:Inv (X.tried xe (X.pn++pins)) pins' σ H s):Inv X pins σ H s:=
 ⟨⟨I.ok.mod,I.ok.kind,I.ok.glob,I.ok.blt,I.ok.above,I.ok.inj,I.ok.has,I.ok.cab,I.ok.hd,I.ok.frames,I.ok.stk,I.ok.exf,I.ok.bs,I.ok.bsz,I.ok.noex,I.ok.exfs,I.ok.funs,I.ok.frf⟩,
  I.os,I.bare,I.base,I.loc,I.cell,I.free,I.freeC,λp hp=>I.pin p (Jk _ hp),I.hok,I.len⟩
theorem Inv.suite (I:Inv X pins σ H s)(e:Addr):Inv (X.suite e) pins σ H s:=
 ⟨⟨I.ok.mod,I.ok.kind,I.ok.glob,I.ok.blt,I.ok.above,I.ok.inj,I.ok.has,I.ok.cab,(λz=>nomatch z),I.ok.frames,I.ok.stk,I.ok.exf,I.ok.bs,I.ok.bsz,I.ok.noex,I.ok.exfs,I.ok.funs,I.ok.frf⟩,
  I.os,I.bare,I.base,I.loc,I.cell,I.free,I.freeC,I.pin,I.hok,I.len⟩
theorem Inv.unsuite {e:Addr}(ok:X.Ok)(I:Inv (X.suite e) pins σ H s):Inv X pins σ H s:=
 ⟨ok,I.os,I.bare,I.base,I.loc,I.cell,I.free,I.freeC,I.pin,I.hok,I.len⟩
theorem zdx {M:Model}{A:Around}{E:QC}{i:Nat}{n:Str}{pos:Pos}{Q:QD}(I:Inv X pins σ H s)(hN:X.N.Nodup)(hi:X.N[i]? =some n)(hk:X.env.scope.names.lookup n=some .local)
  (h:∀s',Inv X pins (σ.set i none) H s'->Q () s'):wpAny M A (do bindName X.env n .none;unbindBehindTheSuite X.env n pos) Q E s:=by
 obtain⟨m,hn,hl⟩:=id I.loc;have cl:(X.env.scope.kind==.class || (X.env.scope.kind==.module && X.env.locals !=X.env.globals))=false:=by rw[I.ok.kind];rfl
 refine wpAny_nameGoes_keeps hk hn cl λh' v hn' sb=>?_;obtain⟨oL,_,_,gL,_⟩:=id hn;have ol:∀b ob,X.s₀.heap.get? b=some ob->b≠X.env.locals:=λb ob g=>Jm (Jg (Heap.lt_size g) I.ok.above);refine h _ ⟨I.ok,I.os,I.bare,⟨λb ob g z hb hx=>(sb.2 b (ol b ob g)).trans (I.base.keep b ob g z hb hx),λb ob g z hb hx=>?_,I.base.free,λb ob g hx=>?_,I.base.tups,I.base.frzs,I.base.tbls⟩,
  ⟨_,hn',λj y v' e1 e2 e3=>?_⟩,λy c e=>?_,I.free,I.freeC,λp hp=>?_,λb w g=>?_,by simpa using I.len⟩
 ·obtain⟨sl,g1⟩:=I.base.slot b ob g z hb hx;exact⟨sl,(sb.2 b (ol b ob g)).trans g1⟩
 ·obtain⟨o',g1⟩:=I.base.there b ob g hx;exact⟨o',(sb.2 b (ol b ob g)).trans g1⟩
 ·have hj:j≠i:=λz=>by
   subst z;have:j < σ.length:=by rw[I.len];exact(List.getElem?_eq_some_iff.mp hi).1
   rw[List.getElem?_set_self this] at e2;cases e2
  rw[List.getElem?_set_ne (Ne.symm hj)] at e2;obtain⟨u',r',q⟩:=hl j y v' e1 e2 e3;refine⟨u',r',?_⟩;rcases q with ⟨k,e⟩ | ⟨k,c,e,z⟩
  ·refine .inl ⟨k,?_⟩;have:y≠n:=λz=>hj (zgO hN e1 (z ▸ hi));show(if y=n then v else m y)=some u';rw[if_neg this];exact e
  ·exact .inr ⟨k,c,e,z.sameBut sb (I.cne y c e)⟩
 ·obtain⟨w',z⟩:=I.cell y c e;exact⟨w',z.sameBut sb (I.cne y c e)⟩
 ·obtain⟨g,z,ne,nf,d⟩:=I.pin p hp;exact⟨(sb.2 p.1 ne).trans g,z,ne,nf,d⟩
 ·refine(I.hok b w g).stay (λc v2 hc q=>(sb.2 c λz=>?_).trans q) (λ_ q=>q) λ_ _ q=>q;subst z;rcases hc with y | y
  ·rw[<-y,I.free] at g;cases g
  ·rw[I.free] at y;cases y
end
noncomputable def Ends.less (D:Ends)(i:Nat):Ends:={nx:=fun σ H=>D.nx (σ.set i none) H,rt:=D.rt,bk:=fun σ H=>D.bk (σ.set i none) H,ct:=fun σ H=>D.ct (σ.set i none) H}
def zla (K:QA)(cv:Value)(i:Nat)(ts:TS)(D:Ends):St->XK:=fun σ cls od H'=>∃C,cls=.ref C/\PySem.W.exmOne K (.ref C) cv=some true/\
 ∀e,H' e=none->ts (D.less i) (σ.set i (some (.ref e))) (upd H' e (exO e C od false))
def zqM (K:QA)(cv:Value)(i:Nat)(tb:(St->XK)->TS)(ts:TS):TS:=λD σ H=>tb (zla K cv i ts D) D σ H
theorem _root_.Px.Chg2.mono {fs:QO}{own own':Addr->Prop}{h h':Heap}(c:Chg2 fs own h h')(k:∀b,own b->own' b):Chg2 fs own' h h':=
 ⟨c.size,λb o q a n=>c.keep b o q a λz=>n (k b z),λb o q a n=>c.slot b o q a λz=>n (k b z)⟩
section
variable {X:Cx}{x n:Str}{i:Nat}{cv:Value}{body suite:List Stmt}{b₀:Stmt}{np hpos pos:Pos}{tb:(St->XK)->TS}{ts:TS}
theorem Inv.caught {pins:QE}{σ:St}{H H':Hp}{s s2:Shared}{h4:Heap}{ea C T T':Addr}{od:QM}(J0:Inv X pins σ H s)(os:s2.os=s.os)(bare:AllBare s2.gens)(un:Un (frs X.stack) [] H H' s.heap s2.heap)(hok:HOk X.prog X.w H' s2.heap)
  (old:s.heap.get? ea=none\/H ea≠none) (nT:s.heap.get? T=none) (u1:H' ea=none) (u2:H' T=none) (z:s2.heap.objs.size<=T') (c:Chg2 (frs X.stack) (λb=>b=ea\/b=T\/b=T') s2.heap h4) (tb:Tb h4 ea (.ref C) od T' .none):
  Inv X pins σ (upd H' ea (exO ea C od false)) {s2 with heap:=h4}:=by
 obtain⟨oe,vs,oT,tz,ge,e1,e2,e3,_⟩:=tb;have ge':h4.get? ea=some ⟨.ref C,od,.fields vs,oe.slots⟩:=by obtain⟨c0,d0,dt,sl⟩:=oe;dsimp only at e1 e2 e3;subst e1;subst e2;subst e3;exact ge
 have nT2:s2.heap.get? T'=none:=Heap.get?_none_of_le z;have fr2:∀b∈frs X.stack,H' b=none:=λb hb=>by have J:=J0.call' os un hok bare (λb z=>nomatch z);exact J.stkFree b hb
 have u3:H' T'=none:=hok.fresh z;have U:Un (frs X.stack) [] H H' s.heap h4:=un.chg c (λb ob _ y=>y) λb y=>by
  rcases y with y | y | y
  ·subst y;rcases old with y | y
   ·exact .inl y
   ·exact .inr ⟨y,⟨_,ge⟩⟩
  ·subst y;exact .inl nT
  ·subst y;exact .inl (zcn un (by intro z;cases z) nT2)
 have O:HOk X.prog X.w H' h4:=hok.chg c (λb y=>by
  rcases y with y | y | y
  ·rw[y];exact u1
  ·rw[y];exact u2
  ·rw[y];exact u3) fr2
 refine J0.call' (s':={s2 with heap:=h4}) os (U.track u1 λob q=>.inr ?_) (O.track u1 (zh4 ge' λz=>by cases z)) bare (λb z=>nomatch z);rcases old with y | y
 ·rw[y] at q;cases q
 ·exact y
theorem znp (hst:X.stack=X.env::X.outer)(hfm:X.env.frame=some X.env.locals)(hN:X.N.Nodup)(hi:X.N[i]? =some n)(hlo:X.env.scope.names.lookup n=some .local)(hg:Gl X x)(hm:X.mg x=some cv)
  (hb:∀xe pn E,zel (CX1 X.prog X.w) (X.tried xe pn) E->PSs (X.tried xe pn) body (tb E)) (hs:∀e,PSs (X.suite e) (b₀::suite) ts) (hdb:(x==("__debug__" :Str))=false:=by decide):
  PS X (.Try body [.ExceptHandler (some (.Name x np)) (some n) (b₀::suite) hpos] [] [] pos) (zqM X.K cv i tb ts):=by
 intro pins s σ H D I h;have key:zel (CX1 X.prog X.w) (X.tried (λe s₁=>wpAny (model X.prog X.w) X.A (noteFrame e X.env) (λ_ s₂=>wpAny (model X.prog X.w) X.A (setFlight e none) (λ_ s₃=>
   wpAny (model X.prog X.w) X.A (handleBy e X.env [.ExceptHandler (some (.Name x np)) (some n) (b₀::suite) hpos]) (SP X pins D) X.xe s₃) X.xe s₂) X.xe s₁) (X.pn++pins)) (zla X.K cv i ts D):=by
  intro pins' σ' H1 s1 e s2 I1 hc;obtain⟨ea,cls,od,H',T,rfl,os,bare,un,hok,tb',old,nT,u1,u2,C,rfl,em,q⟩:=hc;have J0:Inv X pins σ' H1 s1:=I1.untried;have J:=J0.call' os un hok bare (λb z=>nomatch z);show wpAny _ _ (noteFrame (.ref ea) X.env) _ _ s2;refine zrj (base:=X.base) (by rw[<-hst];exact J.ok.frames) (by rw[<-hst];exact J.stack) hfm tb' λh3 T' z t3 c3=>?_;rw[show(X.env::X.outer).filterMap (·.frame)=frs X.stack from by rw[hst];rfl] at c3;have c3':Chg2 (frs X.stack) (λb=>b=ea\/b=T\/b=T') s2.heap h3:=c3.mono λb y=>y.elim .inl λy=>.inr (.inl y);have J3:=J0.caught os bare un hok old nT u1 u2 z c3' t3;have LT:PySem.W.Looks (model X.prog X.w) h3 (typeOf (.ref ea)) (.ref C):=by obtain⟨vs,sl,ge,_⟩:=zcE J3.hok zj;exact(PySem.W.Looks.ld ge).andThen .now
  refine wpAny_handleBy_cons (codeAny_handlers_test (zb2 (X:=X.suite ea) (J3.suite ea) hg hm ?_ hdb)) (by intro y;cases y);refine(PySem.W.exm_one J3.kIn LT em).here (s:={s2 with heap:=h3}) ?_;refine codeAny_handlers_suite_as ?_;refine zhI (s:={s2 with heap:=h3}) (fs:=frs X.stack) t3 λh4 t4 c4 k4=>?_;have J4:=J0.caught os bare un hok old nT u1 u2 z (c3'.trans (c4.two (own:=λb=>b=ea\/b=T\/b=T') (.inl rfl) (.inl (.inr (.inr rfl))))) t4;refine zgP (X:=X) J4 hN hi (.inl hlo) (show RelV (.ref ea) (Value.ref ea) from rfl) (λs5 J5=>?_) (.inr hlo);refine wpAny_mono (hs ea pins s5 _ _ (D.less i) (J5.suite ea) (q ea u1)) (λf s6 q6=>?_) λ_ _ y=>y.elim;show wpAny _ _ _ _ _ _;cases f with
  | next=>obtain⟨σ6,H6,J6,y⟩:=q6;exact zdx (J6.unsuite J0.ok) hN hi hlo λs7 J7=>⟨_,_,J7,y⟩
  | brk=>obtain⟨σ6,H6,J6,y⟩:=q6;exact zdx (J6.unsuite J0.ok) hN hi hlo λs7 J7=>⟨_,_,J7,y⟩
  | cont=>obtain⟨σ6,H6,J6,y⟩:=q6;exact zdx (J6.unsuite J0.ok) hN hi hlo λs7 J7=>⟨_,_,J7,y⟩
  | ret u=>obtain⟨v6,σ6,H6,J6,rv,y⟩:=q6;exact zdx (J6.unsuite J0.ok) hN hi hlo λs7 J7=>⟨_,_,_,J7,rv,y⟩
 refine wpAny_Try_except (wpAny_mono (hb _ (X.pn++pins) _ key [] s σ H D (I.tried _) h) (λf s₁ q=>?_) λ_ _ y=>y);cases f with
 | next=>obtain⟨σ',H',I',y⟩:=q;exact wpAny_execs_nil ⟨σ',H',I'.untried,y⟩
 | brk=>obtain⟨σ',H',I',y⟩:=q;exact⟨σ',H',I'.untried,y⟩
 | cont=>obtain⟨σ',H',I',y⟩:=q;exact⟨σ',H',I'.untried,y⟩
 | ret u=>obtain⟨v,σ',H',I',rv,y⟩:=q;exact⟨v,σ',H',I'.untried,rv,y⟩
end
end L2
namespace L2
open PySem PySem.Spec PyProof.Rows
noncomputable def cxC (X:Cx)(N:QP)(scope:Scope)(cl:List (Str ×Addr))(s₀:Shared)(H₀:Hp)(ex:QO):Cx:=
 {X with N:=N,s₀:=s₀,H₀:=H₀,env:=compEnvC scope cl s₀.heap.objs.size X.env,outer:=X.stack,ex:=ex,fn:=λ_=>false,pn:=[],xe:=λ_ _=>False}
structure zaj (X:Cx)(x:Str)(ys:QP)(js:List Nat)(scope:Scope)(cl:List (Str ×Addr)):Prop where
 clos:closureFor scope X.env=pure cl
 kind:scope.kind=.function
 nocell:∀y∈scope.names,y.2≠ .cell
 names:∀y∈scope.names,y.2=.local->scope.names.lookup y.1=some .local
 tgt:scope.names.lookup x=some .local
 nd:(x::ys).Nodup
 sub:∀p∈cl,X.env.cells.lookup p.1=some p.2
 has:∀p∈(relabel scope X.env).names,p.2=.cell\/p.2=.free->p.1∈cl.map (·.1)
 fr:∀(i:Nat) (y:Str),ys[i]? =some y->∃j,js[i]? =some j/\X.N[j]? =some y/\(X.env.kindOf y=some .cell\/X.env.kindOf y=some .free)/\((relabel scope X.env).names.lookup y=some .cell\/(relabel scope X.env).names.lookup y=some .free)
 len:js.length=ys.length
theorem zb8 {cl:List (Str ×Addr)}:∀{y:Str},y∈cl.map (·.1)->∃c,cl.lookup y=some c:=by
 induction cl with
 | nil=>intro y h;simp at h
 | cons p r ih=>
  intro y h;rw[List.lookup_cons];cases e:y==p.1 with
  | true=>exact⟨p.2,rfl⟩
  | false=>
   rw[List.map_cons,List.mem_cons] at h;rcases h with h | h
   ·rw[h] at e;simp at e
   ·exact ih h
def PTs (X:Cx)(ifs:List Expr)(t:TT):Prop:=
 ∀(pins:QE) (s:Shared) (σ:St) (H:Hp) (Q:Bool->Hp->Prop),Inv X pins σ H s->t σ H Q->
  wpAny (model X.prog X.w) X.A (forIn ifs true λc r=>if r=true then do let ok<-isTrue c X.env (eval c X.env);pure (ForInStep.yield ok) else pure (ForInStep.yield r)) (TP X pins σ Q) X.xe s
def zle:TT:=λ_ H Q=>Q true H
theorem zfU {X:Cx}:PTs X [] zle:=λ_ _ _ H _ I h=>wpAny_tests_nil ⟨H,I,h⟩
theorem zoU {X:Cx}{c:Expr}{t:TT}(h:PT X c t):PTs X [c] t:=λpins s σ H Q I q=>wpAny_tests_one (h pins s σ H Q I q)
noncomputable def frees (σ:St)(js:List Nat):St:=js.map λj=>(σ[j]?).getD none
def zn0 (J:It)(p:Addr)(σ:St)(js:List Nat)(tt:TT)(te:TE)(H1:Hp)(Q:VK):Prop:=
 ∃W:Nat->Nat->List V->Hp->Prop,(∃m,W 0 m [] (upd H1 p (.lst [])))/\∀i m acc H,W i m acc H->
  (J.stop i H/\Q (.ref p) H)\/(J.go i H/\∀x H',J.yld i H x H'->tt (some x::frees σ js) H' λok H2=>
   if ok=true then te (some x::frees σ js) H2 λy H3=>H3 p=some (.lst acc)/\acc.length < sizeLine/\∃m',m' < m/\W (i+1) m' (acc++ [y]) (upd H3 p (.lst (acc++ [y])))
   else∃m',m' < m/\W (i+1) m' acc H2)
def zpJ (wi:TI)(js:List Nat)(tt:TT)(te:TE):TE:=fun σ H Q=>wi σ H λJ H1=>∀p,H1 p=none->zn0 J p σ js tt te H1 Q
section
variable {X:Cx}{x:Str}{ys:QP}{js:List Nat}{scope:Scope}{cl:List (Str ×Addr)}{pins:QE}{σ:St}{H:Hp}{s:Shared}
theorem zaj.cells (S:zaj X x ys js scope cl){y:Str}{c:Addr}(h:cl.lookup y=some c):X.env.cells.lookup y=some c:=S.sub (y,c) (PySem.mem_of_lookup h)
theorem zoK (S:zaj X x ys js scope cl)(I:Inv X pins σ H s){fp:QO}(f:∀b∈fp,FpOk X pins H b)(fo:∀b∈fp,b < s.heap.objs.size){h1:Heap}{m:QB}{t1:Nat}(hn:h1.Ns s.heap.objs.size m)
  (k:∀b o,s.heap.get? b=some o->h1.get? b=some o):
  Inv (cxC X (x::ys) scope cl s H fp) (X.pn++pins) (none::frees σ js) H {s with heap:=h1,toks:=t1}:=by
 have nfs:∀b∈fp,b∉frs X.stack:=λb hb z=>(List.mem_cons.mp (I.stkSub b z)).elim (f b hb).2.1 (f b hb).2.2.1;have kept:∀y c,cl.lookup y=some c->∀v,s.heap.IsCell c v->h1.IsCell c v:=λy c _ v ⟨o,ho,hd⟩=>⟨o,k c o ho,hd⟩;refine⟨⟨I.ok.mod,S.kind,I.ok.glob,I.ok.blt,Jb _,λy z c e1 e2=>I.ok.inj y z c (S.cells e1) (S.cells e2),λy hy=>?_,λy c e _=>Ji e Jh,I.ok.hd,I.ok.frames,.inl rfl,λb hb=>⟨?_,λy c e=>(f b hb).2.2.2.2.1 y c (S.cells e)⟩,
   I.bs,Jn I.ok.bsz I.sz,λb o e hb=>?_,nfs,I.stack,I.stkFree⟩,
  I.os.trans ?_,I.bare,Un.kept k,⟨m,hn,λi y v e1 e2 e3=>?_⟩,λy c e=>?_,I.hok.fresh (Jb _),λy c e=>I.freeC y c (S.cells e),λp hp=>?_,I.hok.kept k,?_⟩
 ·rcases hy with hy | hy
  ·exact zb8 (S.has _ (PySem.mem_of_lookup hy) (.inl rfl))
  ·exact zb8 (S.has _ (PySem.mem_of_lookup hy) (.inr rfl))
 ·exact Jm (fo b hb)
 ·rcases(f b hb).2.2.2.1 with z | z
  ·exact I.ok.noex b o e z
  ·exact Ji (Jg (Heap.lt_size e) (Jn I.ok.bsz z)) (Jz _)
 ·exact I.os.symm
 ·cases i with
  | zero=>cases e2
  | succ i=>
   obtain⟨j,ej,eN,ek,ek'⟩:=S.fr i y e1;have es:σ[j]? =some (some v):=by
    have q:(frees σ js)[i]? =some (some v):=e2;unfold frees at q;rw[List.getElem?_map,ej] at q;have q':(σ[j]?).getD none=some v:=Option.some.inj q;cases e:σ[j]? with
    | none=>rw[e] at q';cases q'
    | some o=>rw[e] at q';cases q';rfl
   obtain⟨m0,_,hl⟩:=I.loc;obtain⟨u,r,l⟩:=hl j y v eN es (.inr ek);rcases l with ⟨l,_⟩ | ⟨_,c,ec,hc⟩
   ·rcases ek with ek | ek <;> · rw[ek] at l;cases l
   ·have hk:y∈cl.map (·.1):=by
     rcases ek' with q | q
     ·exact S.has _ (PySem.mem_of_lookup q) (.inl rfl)
     ·exact S.has _ (PySem.mem_of_lookup q) (.inr rfl)
    obtain⟨c',ec'⟩:=zb8 hk;have e:=S.cells ec';rw[ec] at e;cases e;exact⟨u,r,.inr ⟨ek',c,ec',kept y c ec' _ hc⟩⟩
 ·obtain⟨v,q⟩:=I.cell y c (S.cells e);exact⟨v,kept y c e v q⟩
 ·have hp':p∈X.pn++pins:=(Jj.mp hp).elim (λz=>Ji (show p∈([]:QE) from z) (by simp)) id;obtain⟨a,b,c,d,e⟩:=I.pin p hp';exact⟨k _ _ a,b,Jm (Heap.lt_size a),λz=>(List.mem_cons.mp (I.stkSub _ z)).elim c d,e⟩
 ·show _=(x::ys).length;rw[List.length_cons,List.length_cons];unfold frees;rw[List.length_map,S.len]
theorem znL {H1:Hp}{s1:Shared}{σ':St}{pins':QE}{s0:Shared}{H0:Hp}(I:Inv X pins σ H0 s0){fp:QO}(f:∀b∈fp,FpOk X pins H0 b)(U0:Un (frs X.stack) fp H0 H s0.heap s.heap)(ho:s.os=s0.os)
  (J:Inv (cxC X (x::ys) scope cl s H fp) pins' σ' H1 s1):Inv X pins σ H1 s1:=by
 have U1:Un (frs X.stack) fp H H1 s.heap s1.heap:=J.base;exact I.call' (J.os.trans ho) (U0.trans U1) J.hok J.bare λb hb=>⟨(f b hb).2.2.2.1,(f b hb).2.1,(f b hb).2.2.2.2.1,(f b hb).2.2.2.2.2⟩
variable {iter elt:Expr}{ifs:List Expr}{px pos:Pos}{wi:TI}{tt:TT}{te:TE}
theorem zjn (S:zaj X x ys js scope cl)(hc:X.calm=true)(ht:∀s₀ H₀ ex,PTs (cxC X (x::ys) scope cl s₀ H₀ ex) ifs tt)(he:∀s₀ H₀ ex,PE (cxC X (x::ys) scope cl s₀ H₀ ex) elt te)
  {s2:Shared} {H2:Hp} {it:Addr} {fp:QO} {tn:Nat->Heap->Prop} {J:It} (I2:Inv X pins σ H2 s2) (T:Turn X.prog X.w X.K (.Name x px) J fp it tn) (st2:tn 0 s2.heap) (f2:∀b∈fp,FpOk X pins H2 b)
  {Q:VK} (q:∀p,H2 p=none->zn0 J p σ js tt te H2 Q)
  {R:Value->Addr->Result->Shared->Prop}
  (hR:∀(p:Addr) (C:Addr) (H':Hp) (s':Shared) (m:QB),s2.heap.objs.size<=C->s'.heap.Ns C m->H' C=none->Inv X pins σ H' s'->Q (.ref p) H'->R (.ref p) C (.ok .next) s'):
  wpAny (model X.prog X.w) X.A (newList []) (λacc s₃=>wpAny (model X.prog X.w) X.A (newFunctionEnv scope X.env.globals cl [] X.env.qual none .none (some X.env)) (λcenv s₄=>
   codeAny (model X.prog X.w) X.A (.compStart (.ListComp elt [⟨.Name x px,iter,ifs,0⟩] scope pos) 0 (.ref it) acc {cenv with scope:=relabel scope X.env}) (R acc cenv.locals) s₄) X.xe s₃) X.xe s2:=by
 refine wpAny_newObj_type (wpAny_newFunctionEnv S.nocell (by intro y hy;simp at hy) (λh₁ hns₁ hsb₁=>?_) S.kind);have fr2:H2 s2.heap.objs.size=none:=I2.hok.fresh (Jb _);obtain⟨W,⟨m0,w0⟩,turn⟩:=q _ fr2;have I3:Inv X pins σ (upd H2 s2.heap.objs.size (.lst [])) {s2 with heap:=s2.heap.push {cls:=.type "list",dict:=none,data:=.seq ([]:QN).toArray}}:=
  I2.laid (t':=s2.toks) (λb u e=>Heap.get?_push_of_some _ e) (Jb _) ⟨Nat.zero_le _,[],0,.nil,Heap.get?_push_size _ rfl⟩
 have U0:Un (frs X.stack) fp H2 (upd H2 s2.heap.objs.size (.lst [])) s2.heap (s2.heap.push {cls:=.type "list",dict:=none,data:=.seq ([]:QN).toArray}):=
  Un.laid (λb u e=>Heap.get?_push_of_some _ e) (Jb _) fr2
 have fo:∀b∈fp,b < s2.heap.objs.size:=λb hb=>by obtain⟨o,e,_⟩:=T.obj 0 _ st2 b hb;exact Heap.lt_size e
 have f3:∀b∈fp,FpOk X pins (upd H2 s2.heap.objs.size (.lst [])) b:=λb hb=>⟨by rw[zl (Jm (fo b hb))];exact(f2 b hb).1,(f2 b hb).2⟩
 have hold:∀b o,(s2.heap.push {cls:=.type "list",dict:=none,data:=.seq ([]:QN).toArray}).get? b=some o->h₁.get? b=some o:=λb o e=>
  hsb₁.extBut b o (Jm (Heap.lt_size e)) (Heap.get?_push_of_some _ e)
 have fo3:∀b∈fp,b < (s2.heap.push {cls:=.type "list",dict:=none,data:=.seq ([]:QN).toArray}).objs.size:=λb hb=>by rw[Heap.size_push];exact Nat.lt_succ_of_lt (fo b hb)
 have I4:=zoK (t1:=s2.toks+([]:QK).length) S I3 f3 fo3 hns₁ hold;have st4:tn 0 h₁:=T.keep _ _ _ st2 λb _ o e=>hold b o (Heap.get?_push_of_some _ e);have stat:∀{H':Hp},(∀b∈fp,H' b=none)->∀b∈fp,FpOk (cxC X (x::ys) scope cl {s2 with heap:=s2.heap.push {cls:=.type "list",dict:=none,data:=.seq ([]:QN).toArray}} (upd H2 s2.heap.objs.size (.lst [])) fp) (X.pn++pins) H' b:=λhn b hb=>
  ⟨hn b hb,Jm (fo3 b hb),I4.ok.exfs b hb,.inl hb,λy c e=>(f2 b hb).2.2.2.2.1 y c (S.cells e),λp hp=>(f2 b hb).2.2.2.2.2 p ((Jj.mp hp).elim (λz=>Ji (show p∈([]:QE) from z) (by simp)) id)⟩
 have loop:codeAny (model X.prog X.w) X.A (.compLoop (.ListComp elt [⟨.Name x px,iter,ifs,0⟩] scope pos) 0 (.ref it) (.ref s2.heap.objs.size) (compEnvC scope cl (s2.heap.push {cls:=.type "list",dict:=none,data:=.seq ([]:QN).toArray}).objs.size X.env))
   (R (.ref s2.heap.objs.size) (s2.heap.push {cls:=.type "list",dict:=none,data:=.seq ([]:QN).toArray}).objs.size) {s2 with heap:=h₁,toks:=s2.toks+([]:QK).length}:=by
  refine codeAny_loop rfl (λn s'=>∃i acc v0 H',Inv (cxC X (x::ys) scope cl {s2 with heap:=s2.heap.push {cls:=.type "list",dict:=none,data:=.seq ([]:QN).toArray}} (upd H2 s2.heap.objs.size (.lst [])) fp) (X.pn++pins) (v0::frees σ js) H' s'/\tn i s'.heap/\(∀b∈fp,H' b=none)/\W i n acc H')
   (λn s5 hI=>?_) m0 ⟨0,[],none,_,I4,st4,λb hb=>(f3 b hb).1,w0⟩
  show wpAny _ X.A ((compTurn (.ListComp elt [⟨.Name x px,iter,ifs,0⟩] scope pos) 0 (.ref it) (.ref s2.heap.objs.size) (compEnvC scope cl (s2.heap.push {cls:=.type "list",dict:=none,data:=.seq ([]:QN).toArray}).objs.size X.env)).onRaise (λx=>do noteFrame x (compEnvC scope cl (s2.heap.push {cls:=.type "list",dict:=none,data:=.seq ([]:QN).toArray}).objs.size X.env);theTreesLotGoes x)) _ _ s5;refine wpAny_noted ?_;rw[compTurn_list];obtain⟨i,acc,v0,H5,I5,st5,fr5,w5⟩:=hI;refine Ja (wpAny_standAt (Ja ?_));rcases turn i n acc H5 w5 with ⟨stop,qn⟩ | ⟨go,step⟩
  ·refine wpAny_mono (T.done (cxC X (x::ys) scope cl {s2 with heap:=s2.heap.push {cls:=.type "list",dict:=none,data:=.seq ([]:QN).toArray}} (upd H2 s2.heap.objs.size (.lst [])) fp) rfl rfl rfl hc i _ s5 _ H5 _ I5 (stat fr5) st5 stop) (λr s6 ⟨hr,I6⟩=>?_) λ_ _ e=>e;subst hr;obtain⟨m,hn,_⟩:=I6.loc;exact wpAny_pure (hR _ _ H5 s6 m (by rw[Heap.size_push];exact Nat.le_succ _) hn I6.free (znL I2 f2 U0 (by rfl) I6) qn)
  ·refine wpAny_mono (T.item (cxC X (x::ys) scope cl {s2 with heap:=s2.heap.push {cls:=.type "list",dict:=none,data:=.seq ([]:QN).toArray}} (upd H2 s2.heap.objs.size (.lst [])) fp) rfl rfl rfl hc i _ s5 _ H5 _ I5 (stat fr5) st5 go) (λr s6 ⟨u,hr,h6⟩=>?_) λ_ _ e=>e;subst hr;refine Ja (wpAny_mono h6 (λ_ s7 ⟨v,H7,I7,r7,y7,st7,fr7⟩=>?_) λ_ _ e=>e);have I7':=I7.pinned (stat fr7) (T.obj _ _ st7);have G:PG (cxC X (x::ys) scope cl {s2 with heap:=s2.heap.push {cls:=.type "list",dict:=none,data:=.seq ([]:QN).toArray}} (upd H2 s2.heap.objs.size (.lst [])) fp) (.Name x px) (zfp 0):=
    zah S.nd rfl (.inl (lookup_relabel_local S.tgt)) (.inr (lookup_relabel_local S.tgt))
   refine Ja (wpAny_mono (G _ s7 _ H7 v u (fun σ8 H8=>σ8=some v::frees σ js/\H8=H7) I7' r7 ⟨rfl,rfl⟩) (λ_ s8 ⟨σ8,H8,I8,e8,e8'⟩=>?_) λ_ _ e=>e.elim);subst e8 e8';refine Ja (wpAny_mono (ht _ _ _ _ s8 _ _ _ I8 (step v _ y7)) (λok s9 ⟨H9,I9,q9⟩=>?_) λ_ _ e=>e.elim);have again:∀{acc':QQ} {H10:Hp} {s10:Shared},Inv (cxC X (x::ys) scope cl {s2 with heap:=s2.heap.push {cls:=.type "list",dict:=none,data:=.seq ([]:QN).toArray}} (upd H2 s2.heap.objs.size (.lst [])) fp) (X.pn++pins++zf7 fp s7.heap) (some v::frees σ js) H10 s10->
     (∃m',m' < n/\W (i+1) m' acc' H10)->∃m,m < n/\∃i acc v0 H',Inv (cxC X (x::ys) scope cl {s2 with heap:=s2.heap.push {cls:=.type "list",dict:=none,data:=.seq ([]:QN).toArray}} (upd H2 s2.heap.objs.size (.lst [])) fp) (X.pn++pins) (v0::frees σ js) H' s10/\tn i s10.heap/\(∀b∈fp,H' b=none)/\W i m acc H':=λ{acc' H10 s10} I10 ⟨m',hm,w10⟩=>by
    refine⟨m',hm,i+1,acc',some v,H10,I10.unpinned,T.keep _ _ _ st7 λb hb o e=>(I10.pin (b,o) (Jf _ (Jf _ (zcC hb e)))).1,λb hb=>?_,w10⟩;obtain⟨o,e,d⟩:=T.obj _ _ st7 b hb;exact(I10.pin (b,o) (Jf _ (Jf _ (zcC hb e)))).2.1
   cases ok with
   | false=>rw[if_neg Jh] at q9;exact wpAny_pure ⟨rfl,again I9 q9⟩
   | true=>
    rw[if_pos rfl] at q9;refine Ja (Ja (wpAny_mono (he _ _ _ _ s9 _ _ _ I9 q9) (λy s10 ⟨z,H10,I10,r10,e10,l10,w10⟩=>?_) λ_ _ e=>e.elim));refine Ja (wpAny_mono (zaX (X:=cxC X (x::ys) scope cl {s2 with heap:=s2.heap.push {cls:=.type "list",dict:=none,data:=.seq ([]:QN).toArray}} (upd H2 s2.heap.objs.size (.lst [])) fp) _ s10 _ H10 (.ref s2.heap.objs.size) [z] (.ref s2.heap.objs.size) [y] (λ_ H'=>H'=upd H10 s2.heap.objs.size (.lst (acc++ [z]))) I10 rfl (.cons r10 .nil) ⟨_,acc,z,rfl,rfl,e10,l10,rfl⟩)
     (λ_ s11 ⟨_,H11,I11,_,e11⟩=>?_) λ_ _ e=>e.elim)
    subst e11;exact wpAny_pure (wpAny_pure ⟨rfl,again I11 w10⟩)
 exact codeAny_compStart_list loop (T.self _ 0 _ _ _ st4 loop)
theorem zgt (S:zaj X x ys js scope cl)(hc:X.calm=true)(hi:PI X (.Name x px) iter wi)(ht:∀s₀ H₀ ex,PTs (cxC X (x::ys) scope cl s₀ H₀ ex) ifs tt)(he:∀s₀ H₀ ex,PE (cxC X (x::ys) scope cl s₀ H₀ ex) elt te)
  (hs:∀x,foldedSetIterable iter X.env x=pure x:=by intro _;rfl):PE X (.ListComp elt [⟨.Name x px,iter,ifs,0⟩] scope pos) (zpJ wi js tt te):=by
 intro pins s σ H Q I h;rw[eval_ListComp];refine wpAny_comprehension_free (use:=none) rfl hs S.clos S.kind S.names (thn (hi pins s σ H _ I h) λv s1 h1=>thn h1 λitv s2 h2=>?_);obtain⟨it,fp,tn,J,H2,e,I2,T,st2,f2,q⟩:=h2;subst e;refine zjn (Q:=Q) (R:=λacc C=>compPost (model X.prog X.w) X.A X.xe none (EP X pins σ Q) acc C) S hc ht he I2 T st2 f2 q λp C H' s' m hC hn hf I' q'=>?_;refine⟨m,hn,λh' hb=>⟨.ref p,H',?_,rfl,q'⟩⟩;exact I'.turned (it:=C) (t':=s'.toks) (λb o hne e=>hb.extBut b o hne e) hf (Nat.ne_of_gt (Jg I2.lt hC)) (.inr (Jn I2.sz hC))
  (λy c e z=>by obtain⟨v,w⟩:=I2.cell y c e;subst z;exact Jz _ (Jg w.lt hC)) λp hp z=>by have q:=Heap.lt_size (I2.pin p hp).1;rw[z] at q;exact Jz _ (Jg q hC)
theorem ziK {i:Nat}{y:Str}{py spos:Pos}(S:zaj X x ys js scope cl)(hc:X.calm=true)(hi:PI X (.Name x px) iter wi)(ht:∀s₀ H₀ ex,PTs (cxC X (x::ys) scope cl s₀ H₀ ex) ifs tt)(he:∀s₀ H₀ ex,PE (cxC X (x::ys) scope cl s₀ H₀ ex) elt te)
  (hN:X.N.Nodup) (hy:X.N[i]? =some y) (hx:Loc X.env.scope y) (hsw:swapsWith (.ListComp elt [⟨.Name x px,iter,ifs,0⟩] scope pos) (some (.Name y py)) spos.line X.env=pure true)
  (hf:X.fn y=true\/X.env.scope.names.lookup y=some .local:=by first | exact .inl rfl | exact .inr rfl | assumption)
  (hs:∀x,foldedSetIterable iter X.env x=pure x:=by intro _;rfl):PS X (.Assign [.Name y py] (.ListComp elt [⟨.Name x px,iter,ifs,0⟩] scope pos) spos) (tAsg (zpJ wi js tt te) (zfp i)):=by
 intro pins s σ H D I h;rw[exec_Assign_Name_used _ _ _ _ hsw];refine Ja (wpAny_standAt (Ja ?_));show wpAny _ X.A (do let _<-comprehension (.ListComp elt [⟨.Name x px,iter,ifs,0⟩] scope pos) scope X.env _ (newList []) false (eval iter X.env) (some (assign (.Name y py) X.env))) _ _ s;refine Ja (wpAny_mono (wpAny_comprehension_free (use:=some (assign (.Name y py) X.env)) (Q:=λ_ s'=>SP X pins D .next s') rfl hs S.clos S.kind S.names
  (thn (hi pins s σ H _ I h) λv s1 h1=>thn h1 λitv s2 h2=>?_)) (λ_ s' hq=>wpAny_pure (wpAny_pure hq)) λ_ _ e=>e)
 obtain⟨it,fp,tn,J,H2,e,I2,T,st2,f2,q⟩:=h2;subst e;refine zjn (Q:=λx H1=>zfp i x σ H1 D.nx) (R:=λacc C=>compPost (model X.prog X.w) X.A X.xe (some (assign (.Name y py) X.env)) (λ_ s'=>SP X pins D .next s') acc C) S hc ht he I2 T st2 f2 q λp C H' s' m hC hn hf' I' q'=>?_;have neL:C≠X.env.locals:=Nat.ne_of_gt (Jg I2.lt hC);have nfs:C∉X.fs:=I2.nofs hC;have hn0:=hn;obtain⟨o,es,ep,ho,hd,r⟩:=hn;have Ip:Inv X (pins++ [(C,o)]) σ H' s':=I'.pins_of λp hp=>(Jj.mp hp).elim (λz=>I'.pin p (Jf _ z)) λz=>by
  have e:p=(C,o):=by simpa using z
  subst e;exact⟨ho,hf',neL,nfs,λv w=>by rw[hd] at w;cases w⟩
 show wpAny _ _ (assign (.Name y py) X.env (.ref p)) _ _ s';refine thn (zah (pos:=py) hN hy hx hf _ s' σ H' (.ref p) (.ref p) _ Ip rfl q') λ_ s'' ⟨σ8,H8,I8,q8⟩=>?_;have pc:=I8.pin (C,o) (Jf _ (Jf _ (by simp)));refine⟨m,⟨o,es,ep,pc.1,hd,r⟩,λh' hb=>⟨σ8,H8,?_,q8⟩⟩;have I9:Inv X pins σ8 H8 s'':=I8.pins_of λp hp=>I8.pin p (Jf _ (Jk _ hp));exact I9.turned (it:=C) (t':=s''.toks) (λb o hne e=>hb.extBut b o hne e) pc.2.1 neL (.inr (Jn I2.sz hC))
  (λy c e z=>by obtain⟨v,w⟩:=I2.cell y c e;subst z;exact Jz _ (Jg w.lt hC)) λp hp z=>by have q:=Heap.lt_size (I2.pin p hp).1;rw[z] at q;exact Jz _ (Jg q hC)
end
end L2
namespace L2
open PySem PySem.Spec PyProof.Rows
section
variable {X:Cx}
def zne (i j:Int):Prop:=0 < j/\j < 10 ^ 100
theorem zne.log {i j:Int}(h:zne i j):j.natAbs.log2 < 9000:=by
 have h1:j.natAbs < 10 ^ 100:=by have:=h.1;have:=h.2;omega
 have h2:j.natAbs < 2 ^ 400:=Nat.lt_trans h1 (by decide+kernel);have h3:j.natAbs≠0:=by have:=h.1;omega
 have:=(Nat.log2_lt h3).mpr h2;omega
noncomputable abbrev _root_.Jr:=@Int.le_of_lt
theorem zbO:OpR X (binaryOp .FloorDiv) (rI zne λi j=>.int (i / j)):=opI λi j _ _ _ _ _ hc q=>by rw[<-Int.fdiv_eq_ediv_of_nonneg i (Jr hc.1)] at q;exact floordiv_int (by have:=hc.1;omega) q (.inl (PyProof.noPylong_of_log2 hc.log))
def zrz (K:QA):List V->Hp->VK->Prop:=λxs H Q=>∃x T t b,xs=[x,.ty T]/\TyOf K H x t/\PySem.W.kitOne K t (.type T)=some b/\Q (.bl b) H
theorem zan:zbn X (.builtin "isinstance") (zrz X.K):=by intro pins s σ H xs us Q I r h;obtain⟨x,T,t,b,rfl,ty,e,q⟩:=h;obtain⟨u,w',rfl,ru,rw'⟩:=vals2 r;cases (show w'=Value.type T from rw');exact zlE I ru ty e λtk=>⟨.bl b,H,I.tok tk,rfl,q⟩
example (K:QA):PySem.W.kitOne K (.type "NoneType") (.type "int")=some false:=by rfl
example (K:QA):PySem.W.kitOne K (.type "int") (.type "int")=some true:=by rfl
example (K:QA):PySem.W.kitOne K (.type "tuple") (.type "str")=some false:=by rfl
example (K:QA):PySem.W.kitOne K (.type "bool") (.type "int")=some true:=by rfl
example (K:QA):PySem.W.kitOne K (.type "str") (.type "bool")=some false:=by rfl
noncomputable def Its (x:Str):It:=⟨λi _=>i < x.cps.size,λi H v H'=>H'=H/\∃c,x.cps[i]? =some c/\v=.str ⟨#[c]⟩,λi _=>x.cps.size<=i⟩
theorem ziO {P:Program}{w:World}{K:QA}{tg:Expr}{x:Str}{it:Addr}{n:String}{t:Tok}(hn:["enumerate","zip","dict_itemiterator","dict_reverseitemiterator","odict_iterator","itertools.zip_longest","itertools.pairwise"].contains n=false)
  (W:∀A':Around,A'.handled=none->Walks P w A' it [it] [it] x.cps.size (SignAt x) (λi h=>h.IsStrIter it n x t i))
  (E0:∀(A':Around) (s:Shared) (Q:Option Value->Shared->Prop) (E:QC) (i:Nat),A'.handled=none->s.heap.IsStrIter it n x t i->x.cps.size<=i->(∀h',(∀b o,b≠it->s.heap.get? b=some o->h'.get? b=some o)->Q none {s with heap:=h'})->wpAny (model P w) A' (pyNext (.ref it)) Q E s)
  (S0:∀(A':Around) (s:Shared) (Q:QC) (E:QC) (i:Nat),s.heap.IsStrIter it n x t i->Q (.ref it) s->wpAny (model P w) A' (pyIter (.ref it)) Q E s):
  Turn P w K tg (Its x) [it] it (λi h=>h.IsStrIter it n x t i) where
 mem:=by simp
 obj:=λi h st b hb=>by
  have e:b=it:=by simpa using hb
  subst e;obtain⟨o,e,c,d⟩:=st;exact⟨o,e,λv z=>by rw[d] at z;cases z⟩
 keep:=λi h h' st k=>by obtain⟨o,e,r⟩:=st;exact⟨o,k it (by simp) o e,r⟩
 item:=by intro X hP hw hK hc i pins s σ H E I hf st hg;subst hP hw hK;obtain⟨f0,f1,f2,f3,f4,f5⟩:=hf it (by simp);refine(W X.A (I.ok.hd hc)).item i s _ _ hg st λv h' tk hv st' kk=>?_;obtain⟨c,u,hc',rfl⟩:=hv;have I1:Inv X pins σ H {s with heap:=h',toks:=tk}:=I.turned (λb o hb e=>kk b o (by simpa using hb) e) f0 f1 f3 f4 f5;obtain⟨o,e,cl,d⟩:=id st';exact⟨_,rfl,zhh (s:={s with heap:=h',toks:=tk}) e cl d hn ⟨.str ⟨#[c]⟩,H,I1,⟨u,rfl⟩,⟨rfl,c,hc',rfl⟩,st',λb hb=>(hf b hb).1⟩⟩
 done:=by intro X hP hw hK hc i pins s σ H E I hf st hg;subst hP hw hK;obtain⟨f0,f1,f2,f3,f4,f5⟩:=hf it (by simp);exact E0 X.A s _ _ i (I.ok.hd hc) st hg λh' eb=>⟨rfl,I.turned (t':=s.toks) (λb o hb e=>eb b o hb e) f0 f1 f3 f4 f5⟩
 self:=λA i s Q E st h=>S0 A s Q E i st h
def iStr (tl:TE):TI:=fun σ H R=>tl σ H λx H1=>∃z,x=.str z/\R (Its z) H1
theorem zqE {tg l:Expr}{tl:TE}(hl:PE X l tl):PI X tg l (iStr tl):=by
 intro pins s σ H R I h;refine thn (hl pins s σ H _ I h) λv s1 ⟨x,H1,I1,r1,q1⟩=>?_;obtain⟨z,rfl,q⟩:=q1;obtain⟨t,rfl⟩:=r1;have fp:∀b∈ [s1.heap.objs.size],FpOk X pins H1 b:=λb hb=>by
  have e:b=s1.heap.objs.size:=by simpa using hb
  subst e;exact I1.fpOk (Jb _) (I1.hok.fresh (Jb _))
 cases ha:z.cps.all (· < 128)
 ·refine wpAny_pyIter_wide ha ?_;exact⟨s1.heap.objs.size,[s1.heap.objs.size],_,_,H1,rfl,I1.kept (t':=s1.toks) λb o e=>Heap.get?_push_of_some _ e,
   ziO (n:= "str_iterator") (t:=t) (by decide) (λA' hA=>Walks.strWide hA _ z t) (λA' s Q E i hA st hi hQ=>wpAny_pyNext_wide_end hA st (by simpa using hi) λh' he'=>hQ h' λb o hb e=>he' b o hb e) (λA' s Q E i st hQ=>wpAny_pyIter_striter_wide st hQ),
   ⟨_,Heap.get?_push_size _ rfl,rfl,rfl⟩,fp,q⟩
 ·refine wpAny_pyIter_ascii ha ?_;exact⟨s1.heap.objs.size,[s1.heap.objs.size],_,_,H1,rfl,I1.kept (t':=s1.toks) λb o e=>Heap.get?_push_of_some _ e,
   ziO (n:= "str_ascii_iterator") (t:=t) (by decide) (λA' hA=>Walks.strAscii hA _ z t) (λA' s Q E i hA st hi hQ=>wpAny_pyNext_ascii_end hA st (by simpa using hi) λh' he'=>hQ h' λb o hb e=>he' b o hb e) (λA' s Q E i st hQ=>wpAny_pyIter_striter_ascii st hQ),
   ⟨_,Heap.get?_push_size _ rfl,rfl,rfl⟩,fp,q⟩
theorem zoM {z:Str}{g:TG}{tb:TS}{D:Ends}{σ:St}{H:Hp}(Pv:Nat->St->Hp->Prop)(h0:Pv 0 σ H)
  (hs:∀i c σ H,z.cps[i]? =some c->Pv i σ H->g (.str ⟨#[c]⟩) σ H fun σ2 H2=>tb {D with nx:=Pv (i+1),ct:=Pv (i+1),bk:=D.nx} σ2 H2) (hd:∀σ H,Pv z.cps.size σ H->D.nx σ H):
  ∃W:Nat->Nat->St->Hp->Prop,(∃m,W 0 m σ H)/\∀i m σ H,W i m σ H->
   ((Its z).stop i H/\D.nx σ H)\/((Its z).go i H/\∃N:St->Hp->Prop,(∀σ' H',N σ' H'->∃m',m' < m/\W (i+1) m' σ' H')/\∀x H',(Its z).yld i H x H'->g x σ H' fun σ2 H2=>tb {D with nx:=N,ct:=N,bk:=D.nx} σ2 H2):=by
 refine⟨λi m σ H=>m=z.cps.size - i/\i<=z.cps.size/\Pv i σ H,⟨z.cps.size,by simp,Nat.zero_le _,h0⟩,?_⟩;rintro i m σ H ⟨rfl,hi,p⟩;by_cases hlt:i < z.cps.size
 ·refine .inr ⟨hlt,Pv (i+1),fun σ' H' p'=>⟨z.cps.size - (i+1),by omega,rfl,hlt,p'⟩,λx H' y=>?_⟩;obtain⟨e,c,ec,ex⟩:=y;subst e ex;exact hs i c σ _ ec p
 ·have e:i=z.cps.size:=by omega
  subst e;exact .inl ⟨Jb _,hd σ H p⟩
noncomputable def Itrs (lo st:Int)(n:Nat):It:=⟨λi _=>i < n,λi H x H'=>H'=H/\x=.int (lo+i * st),λi _=>n<=i⟩
theorem zjg {P:Program}{w:World}{K:QA}{tg:Expr}(it:Addr)(lo st:Int)(n:Nat):Turn P w K tg (Itrs lo st n) [it] it (λi h=>IsRangeIter h it (lo+(i:Nat) * st) ((n:Int) - (i:Nat)) st) where
 mem:=by simp
 obj:=λi h st b hb=>by
  have e:b=it:=by simpa using hb
  subst e;exact⟨_,st,λv z=>by have z':Data.fields _=Data.cell v:=z;cases z'⟩
 keep:=λi h h' st k=>k it (by simp) _ st
 item:=by intro X hP hw hK hc i pins s σ H E I hf st' hg;subst hP hw hK;obtain⟨f0,f1,f2,f3,f4,f5⟩:=hf it (by simp);have W:=Walks.range (prog:=X.prog) (w:=X.w) (I.ok.hd hc) it lo st n;refine W.item i s _ _ hg st' λv h' tk hv st'' kk=>?_;obtain⟨t,rfl⟩:=hv;have I1:Inv X pins σ H {s with heap:=h',toks:=tk}:=I.turned (λb o hb e=>kk b o (by simpa using hb) e) f0 f1 f3 f4 f5;exact⟨_,rfl,zhh (s:={s with heap:=h',toks:=tk}) (n:= "range_iterator") st'' rfl rfl (by decide) ⟨.int (lo+i * st),H,I1,⟨t,rfl⟩,⟨rfl,rfl⟩,st'',λb hb=>(hf b hb).1⟩⟩
 done:=by intro X hP hw hK hc i pins s σ H E I hf st' hg;subst hP hw hK;obtain⟨f0,f1,f2,f3,f4,f5⟩:=hf it (by simp);exact wpAny_pyNext_range_end (I.ok.hd hc) st' (by have:n<=i:=hg;omega) λh' eb=>⟨rfl,I.turned (t':=s.toks) (λb o hb e=>eb b o hb e) f0 f1 f3 f4 f5⟩
 self:=λ_ _ _ _ _ st h=>wpAny_pyIter_rangeiter st h
def zru (ta:TA):TI:=fun σ H R=>ta σ H λvs H1=>∃j c:Int,vs=[.int 0,.int j,.int c]/\0<=j/\j < 2 ^ 60/\0 < c/\c < 1000/\R (Itrs 0 c ((j+c - 1) / c).toNat) H1
theorem zgU {j c:Int}(h0:0<=j)(hc:0 < c):Builtin.Range.rangeSize 0 j c=(j+c - 1) / c:=by
 unfold Builtin.Range.rangeSize;rw[if_pos hc];by_cases h:(0:Int) < j
 ·rw[if_pos h];have e:j+c - 1=(j - 0 - 1)+c * 1:=by omega
  rw[e,Int.add_mul_ediv_left _ _ (by omega)]
 ·rw[if_neg h];have e:j=0:=by omega
  subst e;rw[Int.ediv_eq_zero_of_lt (by omega) (by omega)]
theorem vals3 {x y z:V}{us:QN}(r:Vals [x,y,z] us):∃u v w',us=[u,v,w']/\RelV x u/\RelV y v/\RelV z w':=by
 cases r with
 | cons r1 r=>cases r with
  | cons r2 r=>cases r with
   | cons r3 r=>cases r;exact⟨_,_,_,rfl,r1,r2,r3⟩
theorem zjl {j c:Int}(h0:0<=j)(h1:j < 2 ^ 60)(hc:0 < c)(hc2:c < 1000):Builtin.Range.small 0 j c=true:=by have b1:(j+c - 1) / c<=j+c - 1:=Int.ediv_le_self _ (by omega);have b2:0<=(j+c - 1) / c:=Int.ediv_nonneg (by omega) (by omega);unfold Builtin.Range.small;rw[zgU h0 hc];simp only[Builtin.Range.rangeFitsLong,Bool.and_eq_true,Bool.or_eq_true,decide_eq_true_eq,beq_iff_eq];generalize(j+c - 1) / c=d at b1 b2 ⊢;have hc':c > 0:=hc;simp only[hc',if_true,Bool.and_eq_true,decide_eq_true_eq];omega
noncomputable abbrev _root_.Jq:=@List.mem_singleton
theorem zl3 {tg a b c:Expr}{ta:TA}{p pos:Pos}(hg:Gl X "range") (hm:X.mg "range" =none) (ha:PA X [a,b,c] ta) (hs:starEach [a,b,c] X.env=[(false,eval a X.env),(false,eval b X.env),(false,eval c X.env)]:=by rfl)
  (hs2:starEach [b,c] X.env=[(false,eval b X.env),(false,eval c X.env)]:=by rfl):PI X tg (.Call (.Name "range" p) [a,b,c] [] pos) (zru ta):=by
 intro pins s σ H R I h;refine Call_ (zcK I hg hm boot_range (PyProof.Rows.callWith_type1 (thn (ha pos pins s σ H _ I h) λus s1 ⟨vs,H1,I1,r1,q1⟩=>?_) (by rw[hs,hs2]) (by rw[hs2];rfl)));obtain⟨j,c,rfl,h0,h1,hc,hc2,q⟩:=q1;obtain⟨u,v,w',rfl,⟨t1,rfl⟩,⟨t2,rfl⟩,⟨t3,rfl⟩⟩:=vals3 r1;refine call_range_3 (by omega) ?_ (.inl (PyProof.noPylong_small (by omega)));refine wpAny_pyIter_range (IsRange.new ..) (zjl h0 h1 hc hc2) ?_;have I2:Inv X pins σ H1 {s1 with heap:=s1.heap.push {cls:=.type "range",data:=.fields #[.int 0 t1,.int j t2,.int c t3]}}:=I1.kept (t':=s1.toks) λb o e=>Heap.get?_push_of_some _ e;refine⟨_,[_],_,_,H1,rfl,I2.kept (t':=s1.toks) λb o e=>Heap.get?_push_of_some _ e,zjg _ 0 c ((j+c - 1) / c).toNat,?_,λb hb=>?_,q⟩
 ·have b2:0<=(j+c - 1) / c:=Int.ediv_nonneg (by omega) (by omega);have e1:(0:Int)+((0:Nat):Int) * c=0:=by simp
  have e2:(((((j+c - 1) / c).toNat:Nat):Int) - ((0:Nat):Int))=Builtin.Range.rangeSize 0 j c:=by rw[zgU h0 hc];omega
  show IsRangeIter _ _ ((0:Int)+((0:Nat):Int) * c) (((((j+c - 1) / c).toNat:Nat):Int) - ((0:Nat):Int)) c;rw[e1,e2];exact Heap.get?_push_size _ rfl
 ·have e:=Jq.mp hb;subst e;exact I2.fpOk (Jb _) (I2.hok.fresh (Jb _))
end
end L2
namespace L2
open PySem PySem.Spec PyProof.Rows
noncomputable def cutS (x:Str)(lo hi:Option Int):Str:=⟨((x.cps.toList.drop (HT.sIx x.length 0 lo)).take (HT.sIx x.length x.length hi - HT.sIx x.length 0 lo)).toArray⟩
theorem znS (l:List Nat)(i k:Nat):(List.range k).filterMap (λm=>l[i+m]?)=(l.drop i).take k:=by
 induction k with
 | zero=>simp
 | succ k ih=>
  rw[List.range_succ,List.filterMap_append,ih];by_cases h:i+k < l.length
  ·have e:l[i+k]? =some l[i+k]:=List.getElem?_eq_getElem h;rw[List.take_add_one];simp[List.getElem?_drop,e]
  ·have e:l[i+k]? =none:=List.getElem?_eq_none (by omega);have e2:((l.drop i).take (k+1))=(l.drop i).take k:=by rw[List.take_of_length_le (by rw[List.length_drop];omega),List.take_of_length_le (by rw[List.length_drop];omega)]
   rw[e2];simp[e]
theorem zlc (lo hi:Option Int)(n:Nat):Builtin.Str.strSliceIndices lo hi 1 n=(List.range (HT.sIx n n hi - HT.sIx n 0 lo)).map λk=>HT.sIx n 0 lo+k:=by
 have c0:∀(v:Int) (d:Nat),(max 0 (min (if v < 0 then v+(n:Int) else v) (n:Int)))=((HT.sIx n d (some v):Nat):Int):=λv d=>by
  rw[<-HT.clip_eq v n d];by_cases h:v < 0
  ·simp only[if_pos h];omega
  ·simp only[if_neg h];omega
 have key:∀a b:Nat,sliceRange (a:Int) (b:Int) 1=(List.range (b - a)).map λk=>a+k:=λa b=>by
  unfold sliceRange;have e1:(if (1:Int) > 0 then(if (a:Int) < (b:Int) then((b:Int) - (a:Int)+1 - 1) / 1 else 0) else(if (a:Int) > (b:Int) then((a:Int) - (b:Int) - 1 - 1) / (-1) else 0)).toNat=b - a:=by
   rw[if_pos (by decide)];split
   ·rw[Int.ediv_one];omega
   ·omega
  show List.map _ (List.range (if (1:Int) > 0 then(if (a:Int) < (b:Int) then((b:Int) - (a:Int)+1 - 1) / 1 else 0) else(if (a:Int) > (b:Int) then((a:Int) - (b:Int) - 1 - 1) / (-1) else 0)).toNat)=_;rw[e1];refine List.map_congr_left λk _=>?_;show((a:Int)+1 * (k:Int)).toNat=a+k;omega
 unfold Builtin.Str.strSliceIndices;simp only[show(1:Int) > 0 by decide,if_true];cases lo with
 | none=>
  cases hi with
  | none=>exact key 0 n
  | some v=>dsimp only;rw[c0 v n];exact key 0 _
 | some u=>
  cases hi with
  | none=>dsimp only;rw[c0 u 0];exact key _ n
  | some v=>dsimp only;rw[c0 u 0,c0 v n];exact key _ _
theorem zl7 (x:Str)(lo hi:Option Int):Txt.slice x lo hi=cutS x lo hi:=by
 have h1:=HT.sIx_le x.length 0 (Nat.zero_le _) lo;have h2:=HT.sIx_le x.length x.length (Jb _) hi;have hn:x.cps.toList.length=x.length:=Array.length_toList;have e:((Builtin.Str.strSliceIndices lo hi 1 x.length).filterMap (x.cps[·]?))=(x.cps.toList.drop (HT.sIx x.length 0 lo)).take (HT.sIx x.length x.length hi - HT.sIx x.length 0 lo):=by rw[zlc,List.filterMap_map,<-znS];refine congrArg (λf=>List.filterMap f _) ?_;funext m;show x.cps[_]? =x.cps.toList[_]?;rw[Array.getElem?_toList]
 unfold Txt.slice cutS;split
 ·rename_i h;have hl:(Builtin.Str.strSliceIndices lo hi 1 x.length).length=x.length:=by simpa using h
  rw[zlc,List.length_map,List.length_range] at hl;have a0:HT.sIx x.length 0 lo=0\/x.length=0:=by omega
  rcases a0 with a0 | a0
  ·rw[a0,List.drop_zero,Nat.sub_zero,List.take_of_length_le (by omega)]
  ·have en:x.cps.toList=[]:=List.eq_nil_of_length_eq_zero (by omega);rw[en,List.drop_nil,List.take_nil];have:x.cps= #[]:=by rw[<-Array.toList_inj];exact en
   rcases x with ⟨c⟩;rw[show c= #[] from this]
 ·rw[e]
section
variable {X:Cx}
def rSlS:V->Option Int->Option Int->Hp->VK->Prop:=λx lo hi H Q=>∃z,x=.str z/\z.length<=sizeLine/\Q (.str (cutS z lo hi)) H
theorem zqo:SlR X rSlS:=by
 intro pins s σ H x v vl vu lo hi sl Q I rx hs pl pu h;obtain⟨z,rfl,hz,q⟩:=h;obtain⟨t,rfl⟩:=rx;refine⟨"str",_,F.slot_str_getitem.lookup,typeIs_str _ _ _,?_⟩;have main:∀(l u:Option (Int ×Tok)),vl=partValue l->vu=partValue u->lo=l.map (·.1)->hi=u.map (·.1)->wpAny (model X.prog X.w) X.A (getItem (.str z t) (.ref sl)) (EP X pins σ Q) X.xe s:=λl u e1 e2 e3 e4=>by subst e1 e2 e3 e4;refine wpAny_getItem_str_slice (l:=l) (u:=u) (st:=none) hs rfl (post_val_or_str ⟨Jn (Txt.slice_le z _ _) hz,λt' k=>?_⟩);show EP X pins σ Q (.str (Txt.slice z (l.map (·.1)) (u.map (·.1))) t') _;rw[zl7];exact⟨.str _,H,I.tok k,⟨_,rfl⟩,q⟩
 cases pl with
 | none=>
  cases pu with
  | none=>exact main none none rfl rfl rfl rfl
  | int j u=>exact main none (some (j,u)) rfl rfl rfl rfl
 | int i t'=>
  cases pu with
  | none=>exact main (some (i,t')) none rfl rfl rfl rfl
  | int j u=>exact main (some (i,t')) (some (j,u)) rfl rfl rfl rfl
end
end L2
namespace L2
open PySem PySem.Spec PyProof.Rows
structure Dfn (K:QA)(mg:QB)(x:Str)(st:Stmt)(ps:QP):Prop where
 ex:∃f fd,Fun K x x st f fd/\Binds K fd ps []/\mg x=some (.ref f)
structure Fn (P:Program)(w:World)(K:QA)(mg:QB)(base:Heap)(x:Str)(k:Nat)(ps:QP)(sp:Sp):Prop where
 ex:∃f fd,FnOk P w K mg base CX0 k f fd ps sp/\Binds K fd ps []/\PySem.W.keepIn K (.ref f)=true/\mg x=some (.ref f)
section
variable {P:Program}{w:World}{K:QA}{mg:QB}{base:Heap}{x:Str}{st:Stmt}{ps N:QP}{sp sp':Sp}{k:Nat}
theorem Fn.mono {j:Nat}(F:Fn P w K mg base x j ps sp)(h:j<=k):Fn P w K mg base x k ps sp:=by obtain⟨f,fd,a,b⟩:=F.ex;exact⟨f,fd,a.mono h,b⟩
theorem Dfn.ok (D:Dfn K mg x st ps)(S:zr N ps (zh st))(len:∀vs H Q E,sp vs H Q E->vs.length=ps.length)
  (hbody:∀(f:Addr) (cdv:Value) (A:Around) (outer:List Env) (s:Shared) (H:Hp) (vs:QQ) (Q:VK) (E:XK),Room k (A.deeper (envOfC x (zh st) s.heap.objs.size f cdv))->sp vs H Q E->
   ∃t,PSs (cxOf CX0 P w K mg base N x (zh st) f cdv A outer s H E).nox (zM st) t/\t {nx:=λ_ H'=>Q .non H',rt:=Q} (start N vs) H):Fn P w K mg base x (k+1) ps sp:=by
 obtain⟨f,fd,F,b,m⟩:=D.ex;exact⟨f,fd,F.ok S len (λcdv A outer s H vs Q E hr h=>hbody f cdv A outer s H vs Q E hr h),b,F.kp,m⟩
theorem Dfn.never (D:Dfn K mg x st ps)(no:∀vs H Q E,¬sp vs H Q E):Fn P w K mg base x k ps sp:=by obtain⟨f,fd,F,b,m⟩:=D.ex;exact⟨f,fd,⟨λvs H Q E h=>Ji h (no vs H Q E),λA outer s H args us vs Q E _ _ _ _ h=>Ji h (no vs H Q E)⟩,b,F.kp,m⟩
end
section
variable {X:Cx}{x:Str}{ps:QP}{sp:Sp}{k k':Nat}{e:Expr}{es:List Expr}{t:TA}{p pos:Pos}
theorem zF (F:Fn X.prog X.w X.K X.mg X.base x k ps sp)(hr:Room k' X.A)(hle:k<=k')(hg:Gl X x)(ha:PA X (e::es) t)(hd:(x==("__debug__" :Str))=false:=by decide)
  (he:starEach (e::es) X.env=(false,eval e X.env)::starEach es X.env:=by rfl) (hpl:∀pos,(backTo pos (starEach es X.env)).any (·.1)=false:=by intro _;rfl):PE X (.Call (.Name x p) (e::es) [] pos) (zkL sp [] E0 t):=by
 obtain⟨f,fd,a,b,kp,m⟩:=F.ex;exact zku a (hr.mono hle) hg m kp b .nil zcx ha hd he (hpl _)
end
section
variable {X:Cx}
end
end L2
namespace Pv
open PySem L2
inductive Th where
 | non
 | int (i:Int)
 | str (x:Str)
 | tup (ts:List Th)
mutual
noncomputable def nodes:Th->Nat
 | .non=>1
 | .int _=>1
 | .str _=>1
 | .tup ts=>1+zdf ts
noncomputable def zdf:List Th->Nat
 | []=>0
 | t::r=>nodes t+zdf r
end
mutual
noncomputable def dep:Th->Nat
 | .non=>0
 | .int _=>0
 | .str _=>0
 | .tup ts=>depL ts+1
noncomputable def depL:List Th->Nat
 | []=>0
 | t::r=>max (dep t) (depL r)
end
def Sign (c:Nat):Prop:=32<=c/\c<=126/\c≠37
def znP (x:Str):Prop:=x.length<=60/\∀c∈x.cps.toList,Sign c
mutual
def Wf:Th->Prop
 | .non=>True
 | .int i=> -(10 ^ 30)<=i/\i<=10 ^ 30
 | .str x=>znP x
 | .tup ts=>ts.length<=40/\WfL ts
def WfL:List Th->Prop
 | []=>True
 | t::r=>Wf t/\WfL r
end
theorem WfL.get:∀{ts:List Th} {i:Nat} {t:Th},WfL ts->ts[i]? =some t->Wf t
 | [],_,_,_,e=>by simp at e
 | u::r,0,t,h,e=>by simp at e;subst e;exact h.1
 | u::r,i+1,t,h,e=>WfL.get (i:=i) h.2 (by simpa using e)
theorem zbL:∀{ts:List Th} {i:Nat} {t:Th},ts[i]? =some t->dep t<=depL ts
 | [],_,_,e=>by simp at e
 | u::r,0,t,e=>by simp at e;subst e;exact Nat.le_max_left _ _
 | u::r,i+1,t,e=>Jn (zbL (i:=i) (by simpa using e)) (Nat.le_max_right _ _)
inductive Rep (H:Hp):Th->V->Prop where
 | non:Rep H .non .non
 | int (i:Int):Rep H (.int i) (.int i)
 | str (x:Str):Rep H (.str x) (.str x)
 | tup {a:Addr} {xs:QQ} {ts:List Th} (e:H a=some (.tup xs)) (l:xs.length=ts.length) (h:∀(i:Nat) (x:V) (t:Th),xs[i]? =some x->ts[i]? =some t->Rep H t x):Rep H (.tup ts) (.ref a)
def Tups (H H':Hp):Prop:=∀b xs,H b=some (.tup xs)->H' b=some (.tup xs)
theorem Rep.keep {H H':Hp}{t:Th}{v:V}(r:Rep H t v)(k:Tups H H'):Rep H' t v:=by
 induction r with
 | non=>exact .non
 | int i=>exact .int i
 | str x=>exact .str x
 | tup e l h ih=>exact .tup (k _ _ e) l ih
def Frm (ws:QO)(H H':Hp):Prop:=∀b o,b∉ws->H b=some o->H' b=some o
theorem Frm.refl {ws:QO}{H:Hp}:Frm ws H H:=λ_ _ _ h=>h
theorem Frm.trans {ws:QO}{H H1 H2:Hp}(a:Frm ws H H1)(b:Frm ws H1 H2):Frm ws H H2:=λc o n h=>b c o n (a c o n h)
theorem Frm.new {ws:QO}{H:Hp}{p:Addr}{o:HO}(h:H p=none):Frm ws H (upd H p o):=λb u _ q=>by rw[zl (zo q h)];exact q
theorem Frm.upd {ws:QO}{H:Hp}{p:Addr}{o:HO}(h:p∈ws):Frm ws H (upd H p o):=λb u n q=>by rw[zl (λz=>n (by rw[z];exact h))];exact q
theorem Frm.same {H H':Hp}(a:Frm [] H H'):Same H H':=λb o h=>a b o (by simp) h
theorem Frm.of {ws:QO}{H H':Hp}(a:Same H H'):Frm ws H H':=λb o _ h=>a b o h
theorem Same.tups {H H':Hp}(a:Same H H'):Tups H H':=λb xs e=>a b _ e
theorem Tups.trans {H H1 H2:Hp}(a:Tups H H1)(b:Tups H1 H2):Tups H H2:=λc xs e=>b c xs (a c xs e)
theorem Tups.upd {H:Hp}{p:Addr}{o:HO}(h:∀xs,H p≠some (.tup xs)):Tups H (upd H p o):=λb xs e=>by rw[zl (λz=>h xs (by rw[<-z];exact e))];exact e
theorem Tups.new {H:Hp}{p:Addr}{o:HO}(h:H p=none):Tups H (L2.upd H p o):=Tups.upd λxs e=>by rw[h] at e;cases e
end Pv
namespace L2
open PySem PySem.Spec PyProof.Rows
section
variable {X:Cx}{x y:Str}{scope:Scope}{j:Nat}{c:Addr}
theorem zfn {env:Env}{p:Str ×NameKind}(h:p∈(relabel scope env).names):∃q∈scope.names,p.1=q.1/\(p=q\/q.2=.free):=by
 obtain⟨q,hq,e⟩:=List.mem_map.mp h;obtain⟨n,k⟩:=q;refine⟨(n,k),hq,?_⟩;dsimp only at e;split at e
 ·rename_i hc;subst e;refine⟨rfl,.inr ?_⟩;have:=(Bool.and_eq_true _ _).mp ((Bool.and_eq_true _ _).mp hc).1;simpa using this.1
 ·subst e;exact⟨rfl,.inl rfl⟩
theorem zaj.zero (kind:scope.kind=.function)(nf:∀y∈scope.names,y.2≠ .free)(nc:∀y∈scope.names,y.2≠ .cell)(nm:∀y∈scope.names,y.2=.local->scope.names.lookup y.1=some .local)(tgt:scope.names.lookup x=some .local):
  zaj X x [] [] scope [] where
 clos:=closureFor_none nf
 kind:=kind
 nocell:=nc
 names:=nm
 tgt:=tgt
 nd:=by simp
 sub:=λp hp=>by simp at hp
 has:=λp hp hk=>by
  obtain⟨q,hq,e,h | h⟩:=zfn hp
  ·subst h;rcases hk with hk | hk
   ·exact Ji hk (nc _ hq)
   ·exact Ji hk (nf _ hq)
  ·exact Ji h (nf _ hq)
 fr:=λi y e=>by simp at e
 len:=rfl
theorem zaj.one (clos:closureFor scope X.env=pure [(y,c)])(kind:scope.kind=.function)(nc:∀y∈scope.names,y.2≠ .cell)(nm:∀y∈scope.names,y.2=.local->scope.names.lookup y.1=some .local)(tgt:scope.names.lookup x=some .local)
  (ne:x≠y) (cell:X.env.cells.lookup y=some c) (only:∀q∈scope.names,q.2=.free->q.1=y) (hN:X.N[j]? =some y) (hk:X.env.kindOf y=some .cell\/X.env.kindOf y=some .free)
  (hk':(relabel scope X.env).names.lookup y=some .cell\/(relabel scope X.env).names.lookup y=some .free):zaj X x [y] [j] scope [(y,c)] where
 clos:=clos
 kind:=kind
 nocell:=nc
 names:=nm
 tgt:=tgt
 nd:=by simp[ne]
 sub:=λp hp=>by cases Jq.mp hp;exact cell
 has:=λp hp hk=>by
  obtain⟨q,hq,e,h | h⟩:=zfn hp
  ·subst h;rcases hk with hk | hk
   ·exact Ji hk (nc _ hq)
   ·simp[only _ hq hk]
  ·simp[e,only _ hq h]
 fr:=λi z e=>by
  cases i with
  | zero=>cases e;exact⟨j,rfl,hN,hk,hk'⟩
  | succ i=>simp at e
 len:=rfl
end
theorem ifT {c:Bool}{A B:Prop}(h:c=true)(a:A):if c=true then A else B:=by rw[if_pos h];exact a
theorem ifF {c:Bool}{A B:Prop}(h:c=false)(b:B):if c=true then A else B:=by rw[if_neg (by rw[h];exact Jh)];exact b
theorem ifB {c:Bool}{A B:Prop}(a:c=true->A)(b:c=false->B):if c=true then A else B:=by
 cases c with
 | true=>exact ifT rfl (a rfl)
 | false=>exact ifF rfl (b rfl)
theorem zaN {i j:Int}:decide (V.int i=V.int j)=decide (i=j):=by
 by_cases h:i=j
 ·subst h;simp
 ·rw[Jd h];exact Jd λz=>h (V.int.inj z)
end L2
namespace L2
open PySem PySem.Spec PyProof.Rows
section
variable {X:Cx}{K:QA}
end
end L2
namespace L2
open PySem PySem.Spec PyProof.Rows
section
variable {X:Cx}{x:Str}{ps:QP}{sp:Sp}{k k':Nat}{p pos:Pos}
end
end L2
namespace L2
open PySem PySem.Spec PyProof.Rows Px
structure FnX (P:Program)(w:World)(K:QA)(mg:QB)(base:Heap)(x:Str)(k:Nat)(ps:QP)(sp:Sp):Prop where
 ex:∃f fd,FnOk P w K mg base (CX1 P w) k f fd ps sp/\Binds K fd ps []/\PySem.W.keepIn K (.ref f)=true/\mg x=some (.ref f)
structure Mdf (K:QA)(C:Addr)(m qual:Str)(st:Stmt)(ps:QP):Prop where
 ex:∃f fd,Fun K m qual st f fd/\Binds K fd ps []/\Meth K C m f
structure Mt (P:Program)(w:World)(K:QA)(mg:QB)(base:Heap)(CX:CXT)(C:Addr)(m:Str)(k:Nat)(ps:QP)(sp:Sp):Prop where
 ex:∃f fd,FnOk P w K mg base CX k f fd ps sp/\Binds K fd ps []/\Meth K C m f
structure Mkd (K:QA)(mg:QB)(x:Str)(C:Addr)(qual:Str)(st:Stmt)(ps:QP):Prop where
 ex:∃f fd,Fun K "__init__" qual st f fd/\Binds K fd ps []/\Mk K C f/\mg x=some (.ref C)
structure Mkr (P:Program)(w:World)(K:QA)(mg:QB)(base:Heap)(x:Str)(C:Addr)(k:Nat)(ps:QP)(sp:Sp):Prop where
 ex:∃f fd,FnOk P w K mg base CX0 k f fd ps sp/\Binds K fd ps []/\Mk K C f/\mg x=some (.ref C)
structure XId (K:QA)(mg:QB)(x:Str)(C:Addr)(qual:Str)(st:Stmt)(ps:QP):Prop where
 cl:XCls K C
 ex:∃f fd,Fun K "__init__" qual st f fd/\Binds K fd ps []/\PySem.W.findIn K (.ref C) "__init__" =some (some (.ref f))/\PySem.W.isFn K (.ref f)=true/\mg x=some (.ref C)
structure XI (P:Program)(w:World)(K:QA)(mg:QB)(base:Heap)(x:Str)(C:Addr)(k:Nat)(ps:QP)(sp:Sp):Prop where
 cl:XCls K C
 ex:∃f fd,FnOk P w K mg base CX0 k f fd ps sp/\Binds K fd ps []/\PySem.W.findIn K (.ref C) "__init__" =some (some (.ref f))/\PySem.W.isFn K (.ref f)=true/\mg x=some (.ref C)
structure XP (K:QA)(mg:QB)(x:Str)(C:Addr):Prop where
 cl:XCls K C
 ei:PySem.W.excIn K C bmV "ValueError.__new__" =true
 mg:mg x=some (.ref C)
section
variable {P:Program}{w:World}{K:QA}{mg:QB}{base:Heap}{x m qual:Str}{C:Addr}{st:Stmt}{ps N:QP}{sp sp':Sp}{k:Nat}{CX:CXT}
theorem FnX.mono {j:Nat}(F:FnX P w K mg base x j ps sp)(h:j<=k):FnX P w K mg base x k ps sp:=by obtain⟨f,fd,a,b⟩:=F.ex;exact⟨f,fd,a.mono h,b⟩
theorem Dfn.okX (D:Dfn K mg x st ps)(S:zr N ps (zh st))(len:∀vs H Q E,sp vs H Q E->vs.length=ps.length)
  (hbody:∀(f:Addr) (cdv:Value) (A:Around) (outer:List Env) (s:Shared) (H:Hp) (vs:QQ) (Q:VK) (E:XK),Room k (A.deeper (envOfC x (zh st) s.heap.objs.size f cdv))->sp vs H Q E->
   ∃t,PSs (cxOf (CX1 P w) P w K mg base N x (zh st) f cdv A outer s H E) (zM st) t/\t {nx:=λ_ H'=>Q .non H',rt:=Q} (start N vs) H):FnX P w K mg base x (k+1) ps sp:=by
 obtain⟨f,fd,F,b,m⟩:=D.ex;exact⟨f,fd,F.okX S len (λcdv A outer s H vs Q E hr h=>hbody f cdv A outer s H vs Q E hr h),b,F.kp,m⟩
theorem Mdf.ok (D:Mdf K C m qual st ps)(S:zr N ps (zh st))(len:∀vs H Q E,sp vs H Q E->vs.length=ps.length)
  (hbody:∀(f:Addr) (cdv:Value) (A:Around) (outer:List Env) (s:Shared) (H:Hp) (vs:QQ) (Q:VK) (E:XK),Room k (A.deeper (envOfC qual (zh st) s.heap.objs.size f cdv))->sp vs H Q E->
   ∃t,PSs (cxOf CX0 P w K mg base N qual (zh st) f cdv A outer s H E).nox (zM st) t/\t {nx:=λ_ H'=>Q .non H',rt:=Q} (start N vs) H):Mt P w K mg base CX0 C m (k+1) ps sp:=by
 obtain⟨f,fd,F,b,me⟩:=D.ex;exact⟨f,fd,F.ok S len (λcdv A outer s H vs Q E hr h=>hbody f cdv A outer s H vs Q E hr h),b,me⟩
theorem Mdf.okX (D:Mdf K C m qual st ps)(S:zr N ps (zh st))(len:∀vs H Q E,sp vs H Q E->vs.length=ps.length)
  (hbody:∀(f:Addr) (cdv:Value) (A:Around) (outer:List Env) (s:Shared) (H:Hp) (vs:QQ) (Q:VK) (E:XK),Room k (A.deeper (envOfC qual (zh st) s.heap.objs.size f cdv))->sp vs H Q E->
   ∃t,PSs (cxOf (CX1 P w) P w K mg base N qual (zh st) f cdv A outer s H E) (zM st) t/\t {nx:=λ_ H'=>Q .non H',rt:=Q} (start N vs) H):Mt P w K mg base (CX1 P w) C m (k+1) ps sp:=by
 obtain⟨f,fd,F,b,me⟩:=D.ex;exact⟨f,fd,F.okX S len (λcdv A outer s H vs Q E hr h=>hbody f cdv A outer s H vs Q E hr h),b,me⟩
theorem Mkd.ok (D:Mkd K mg x C qual st ps)(S:zr N ps (zh st))(len:∀vs H Q E,sp vs H Q E->vs.length=ps.length)
  (hbody:∀(f:Addr) (cdv:Value) (A:Around) (outer:List Env) (s:Shared) (H:Hp) (vs:QQ) (Q:VK) (E:XK),Room k (A.deeper (envOfC qual (zh st) s.heap.objs.size f cdv))->sp vs H Q E->
   ∃t,PSs (cxOf CX0 P w K mg base N qual (zh st) f cdv A outer s H E).nox (zM st) t/\t {nx:=λ_ H'=>Q .non H',rt:=Q} (start N vs) H):Mkr P w K mg base x C (k+1) ps sp:=by
 obtain⟨f,fd,F,b,mk,mm⟩:=D.ex;exact⟨f,fd,F.ok S len (λcdv A outer s H vs Q E hr h=>hbody f cdv A outer s H vs Q E hr h),b,mk,mm⟩
theorem XId.ok (D:XId K mg x C qual st ps)(S:zr N ps (zh st))(len:∀vs H Q E,sp vs H Q E->vs.length=ps.length)
  (hbody:∀(f:Addr) (cdv:Value) (A:Around) (outer:List Env) (s:Shared) (H:Hp) (vs:QQ) (Q:VK) (E:XK),Room k (A.deeper (envOfC qual (zh st) s.heap.objs.size f cdv))->sp vs H Q E->
   ∃t,PSs (cxOf CX0 P w K mg base N qual (zh st) f cdv A outer s H E).nox (zM st) t/\t {nx:=λ_ H'=>Q .non H',rt:=Q} (start N vs) H):XI P w K mg base x C (k+1) ps sp:=by
 obtain⟨c,f,fd,F,b,i,n,mm⟩:=D;exact⟨c,f,fd,F.ok S len (λcdv A outer s H vs Q E hr h=>hbody f cdv A outer s H vs Q E hr h),b,i,n,mm⟩
end
section
variable {X:Cx}{CX:CXT}{x m:Str}{C:Addr}{ps:QP}{sp:Sp}{k k':Nat}{e o:Expr}{es:List Expr}{ta:TE}{t:TA}{p pos apos:Pos}{E:XK}{ES:St->XK}
theorem zW (F:FnX X.prog X.w X.K X.mg X.base x k ps sp)(hr:Room k' X.A)(hle:k<=k')(hg:Gl X x)(hx:zbC (CX1 X.prog X.w) X E)(ha:PA X (e::es) t)(hd:(x==("__debug__" :Str))=false:=by decide)
  (he:starEach (e::es) X.env=(false,eval e X.env)::starEach es X.env:=by rfl) (hpl:∀pos,(backTo pos (starEach es X.env)).any (·.1)=false:=by intro _;rfl):PE X (.Call (.Name x p) (e::es) [] pos) (zkL sp [] E t):=by
 obtain⟨f,fd,a,b,kp,m⟩:=F.ex;exact zku a (hr.mono hle) hg m kp b .nil hx ha hd he (hpl _)
theorem zp2 (F:FnX X.prog X.w X.K X.mg X.base x k ps sp)(hr:Room k' X.A)(hle:k<=k')(hg:Gl X x)(hx:zel (CX1 X.prog X.w) X ES)(ha:PA X (e::es) t)(hd:(x==("__debug__" :Str))=false:=by decide)
  (he:starEach (e::es) X.env=(false,eval e X.env)::starEach es X.env:=by rfl) (hpl:∀pos,(backTo pos (starEach es X.env)).any (·.1)=false:=by intro _;rfl):PE X (.Call (.Name x p) (e::es) [] pos) (znZ sp ES t):=by
 obtain⟨f,fd,a,b,kp,m⟩:=F.ex;exact zm1 a (hr.mono hle) hg m kp b hx ha hd he (hpl _)
theorem zb5 {pl:Sem Bool}(he:PE X o ta)(c:Cls X.K C)(M:Mt X.prog X.w X.K X.mg X.base CX C m k ps sp)(hr:Room k' X.A)(hle:k<=k')(hx:zbC CX X E)(ha:PA X (e::es) t)
  (hst:starEach (e::es) X.env=(false,eval e X.env)::starEach es X.env:=by rfl) (hpl:∀pos,(backTo pos (starEach es X.env)).any (·.1)=false:=by intro _;rfl)
  (ht:eval (.Call (.Attribute o m apos) (e::es) [] pos) X.env=(do
   let ov<-eval o X.env
   standAt apos.atName
   let (f,first) <-holding [ov] (getMethod ov m pl)
   callWith pos f first (backTo pos (starEach (e::es) X.env)) (backToKw pos (keywordEach [] X.env))):=by rfl):
  PE X (.Call (.Attribute o m apos) (e::es) [] pos) (zkR C m sp [] E ta t):=by
 obtain⟨f,fd,a,b,me⟩:=M.ex;exact zoB he c me a (hr.mono hle) b .nil hx ha hst (hpl _) ht
theorem ze8 {pl:Sem Bool}(he:PE X o ta)(c:Cls X.K C)(M:Mt X.prog X.w X.K X.mg X.base CX C m k ps sp)(hr:Room k' X.A)(hle:k<=k')(hx:zbC CX X E)
  (ht:eval (.Call (.Attribute o m apos) [] [] pos) X.env=(do
   let ov<-eval o X.env
   standAt apos.atName
   let (f,first) <-holding [ov] (getMethod ov m pl)
   callWith pos f first (backTo pos (starEach [] X.env)) (backToKw pos (keywordEach [] X.env))):=by rfl):
  PE X (.Call (.Attribute o m apos) [] [] pos) (zkR C m sp [] E ta tNil):=by
 obtain⟨f,fd,a,b,me⟩:=M.ex;exact zm2 he c me a (hr.mono hle) b .nil hx ht
theorem zoI (M:Mkr X.prog X.w X.K X.mg X.base x C k ps sp)(hr:Room k' X.A)(hle:k+1<=k')(hg:Gl X x)(hd:(x==("__debug__" :Str))=false:=by decide):PE X (.Call (.Name x p) [] [] pos) (zkJ C sp [] E0 tNil):=by obtain⟨f,fd,a,b,mk,mm⟩:=M.ex;exact zny mk a (hr.mono hle) hg mm b .nil zcx hd
theorem zjZ (M:Mkr X.prog X.w X.K X.mg X.base x C k ps sp)(hr:Room k' X.A)(hle:k+1<=k')(hg:Gl X x)(ha:PA X (e::es) t)(hd:(x==("__debug__" :Str))=false:=by decide)
  (he:starEach (e::es) X.env=(false,eval e X.env)::starEach es X.env:=by rfl) (hpl:∀pos,(backTo pos (starEach es X.env)).any (·.1)=false:=by intro _;rfl):PE X (.Call (.Name x p) (e::es) [] pos) (zkJ C sp [] E0 t):=by
 obtain⟨f,fd,a,b,mk,mm⟩:=M.ex;exact zpi mk a (hr.mono hle) hg mm b .nil zcx ha hd he (hpl _)
theorem zrr (M:XI X.prog X.w X.K X.mg X.base x C k ps sp)(hr:Room k' X.A)(hle:k+1<=k')(hg:Gl X x)(ha:PA X (e::es) t)(hd:(x==("__debug__" :Str))=false:=by decide)
  (he:starEach (e::es) X.env=(false,eval e X.env)::starEach es X.env:=by rfl) (hpl:∀pos,(backTo pos (starEach es X.env)).any (·.1)=false:=by intro _;rfl):PE X (.Call (.Name x p) (e::es) [] pos) (zpC C sp t):=by
 obtain⟨c,f,fd,a,b,i,n,mm⟩:=M;exact zoS c i n a (hr.mono hle) b hg mm ha hd he (hpl _)
theorem zpQ (M:XP X.K X.mg x C)(hg:Gl X x)(ha:PA X (e::es) t)(hd:(x==("__debug__" :Str))=false:=by decide)
  (he:starEach (e::es) X.env=(false,eval e X.env)::starEach es X.env:=by rfl) (hpl:∀pos,(backTo pos (starEach es X.env)).any (·.1)=false:=by intro _;rfl):PE X (.Call (.Name x p) (e::es) [] pos) (tExc C t):=
 zqh M.cl M.ei hg M.mg ha hd he (hpl _)
end
end L2
namespace L2
open PySem PySem.Spec PyProof.Rows
section
variable {P:Program}{W:World}{A:Around}{E:QC}{z:Shared}
theorem zgz {j t:Addr}{n:Nat}{us:Array Value}{v:Value}{Q:QC}(hj:z.heap.IsTupleIter j t n)(ht:z.heap.IsTuple t us)(hv:us[n]? =some v)
  (q:∀g,g.IsTupleIter j t (n+1)->Heap.SameBut j z.heap g->Q v {z with heap:=g}):wpAny (model P W) A (Builtin.SmallTypes.nextOf (.ref j)) Q E z:=by
 obtain⟨oj,ej,cj,dj⟩:=id hj;obtain⟨ot,et,_,nt,dt⟩:=ht;unfold Builtin.SmallTypes.nextOf;refine Ja (wpAny_callSpecial?_slot (name:=Str.ofString "__next__") hj.typeIs F.slot_tuple_iterator_next (wpAny_call_entry F.slot_tuple_iterator_next hj.typeIs F.entry_tuple_iterator_next ?_ (F.args_tuple_iterator_next_1 _)));show wpAny _ _ (field (.ref j) 0 >>=_) _ _ z;refine Ja (wpAny_field ej dj (x:=.ref t) rfl ?_);show wpAny _ _ (if (Value.ref t==Value.none)=true then _ else _) _ _ z;rw[if_neg (show¬((Value.ref t==Value.none)=true) from Jh)];show wpAny _ _ (field (.ref j) 1 >>=_) _ _ z;refine Ja (wpAny_field ej dj (x:=.int n 0) rfl ?_);show wpAny _ _ (seqItems? (.ref t) >>=_) _ _ z;refine Ja (wpAny_seqItems et dt ?_);simp only[Int.toNat_natCast,hv];refine Ja (wpAny_setField ej dj (by simp) (wpAny_pure ⟨v,rfl,wpAny_pure (q _ ⟨_,Heap.get?_update_self _ ej (Obj.isFreed_of_fields (Obj.data_mapFields dj _)),(Obj.cls_mapFields ..).trans cj,by rw[Obj.data_mapFields dj];simp[rawInt]⟩ (Heap.SameBut.update ..))⟩))
theorem ziY {j t:Addr}{n:Nat}{us:Array Value}{Q:QC}(hh:A.handled=none)(hj:z.heap.IsTupleIter j t n)(ht:z.heap.IsTuple t us)(hv:us[n]? =none)
  (q:∀g e,Heap.ExtBut j z.heap g->(∃o,g.get? e=some o/\o.cls=.type "StopIteration")->E (.ref e) {z with heap:=g}):wpAny (model P W) A (Builtin.SmallTypes.nextOf (.ref j)) Q E z:=by
 obtain⟨oj,ej,cj,dj⟩:=id hj;obtain⟨ot,et,_,nt,dt⟩:=ht;unfold Builtin.SmallTypes.nextOf;refine Ja (wpAny_callSpecial?_slot (name:=Str.ofString "__next__") hj.typeIs F.slot_tuple_iterator_next (wpAny_call_entry F.slot_tuple_iterator_next hj.typeIs F.entry_tuple_iterator_next ?_ (F.args_tuple_iterator_next_1 _)));show wpAny _ _ (field (.ref j) 0 >>=_) _ _ z;refine Ja (wpAny_field ej dj (x:=.ref t) rfl ?_);show wpAny _ _ (if (Value.ref t==Value.none)=true then _ else _) _ _ z;rw[if_neg (show¬((Value.ref t==Value.none)=true) from Jh)];show wpAny _ _ (field (.ref j) 1 >>=_) _ _ z;refine Ja (wpAny_field ej dj (x:=.int n 0) rfl ?_);show wpAny _ _ (seqItems? (.ref t) >>=_) _ _ z;refine Ja (wpAny_seqItems et dt ?_);simp only[Int.toNat_natCast,hv];refine Ja (wpAny_rule (Ja (wpAny_setField ej dj (by simp) ?_)));show wpAny _ _ (newExc (.type "StopIteration") [] >>=_) _ _ _;refine Ja ?_;simp only[newExc,newTuple];refine Ja (wpAny_newObj_type ?_ (by size_fits));refine Ja (m:=firstArgMember _ _) (wpAny_of_eq (a:=Value.none) (by first | rfl | (simp only[firstArgMember];rfl)) ?_);refine wpAny_newObj_type ?_ (by size_fits);simp only[raiseNew];refine Ja (wpAny_handled ?_);first | rw[show A.in1.handled=none from hh] | rw[hh]
 refine Ja (wpAny_pure (wpAny_throw ?_));exact q _ _ (((Heap.SameBut.update ..).extBut.push _).push _) ⟨_,Heap.get?_push_size _ rfl,rfl⟩
structure ZSt (g:Heap)(y a o i k p q:Addr)(n:Nat)(xs us:Array Value)(f:Value):Prop where
 zp:IsZip g y a o f
 its:IsPair g a (.ref i) (.ref k)
 own:∃b c,IsPair g o b c
 i1:g.IsTupleIter i p n
 i2:g.IsTupleIter k q n
 t1:g.IsTuple p xs
 t2:g.IsTuple q us
theorem znN {y a o i k p q:Addr}{n:Nat}{xs us:Array Value}{u v:Value}{Q:Option Value->Shared->Prop}(D:ZipApart y a o i k p q)(S:ZSt z.heap y a o i k p q n xs us .none)(hu:xs[n]? =some u)(hv:us[n]? =some v)
  (fin:∀g,ZSt g y a o i k p q (n+1) xs us (rawInt z.heap.objs.size)->IsPair g z.heap.objs.size u v->g.objs.size=z.heap.objs.size+1->(∀c r,c≠y->c≠o->c≠i->c≠k->z.heap.get? c=some r->g.get? c=some r)->Q (some (.ref z.heap.objs.size)) {z with heap:=g}):
  wpAny (model P W) A (pyNext (.ref y)) Q E z:=by
 obtain⟨hz,ha,⟨b,c,ho⟩,hi,hk,hp,hq⟩:=S;have tz:z.TypeIs (.ref y) "zip" :=⟨_,hz,rfl⟩;have main:wpAny (model P W) A.in1 (Builtin.«zip.__next__» ⟨[.ref y],[]⟩) (λr s'=>∃v,r=.done (.ret v)/\Q (some v) s') (λe s'=>True/\False) z:=by
  show wpAny _ _ (field (.ref y) 2 >>=_) _ _ _;refine Ja (wpAny_field hz rfl (x:=.bool false) rfl ?_);show wpAny _ _ (field (.ref y) 3 >>=_) _ _ _;refine Ja (wpAny_field hz rfl (x:=.ref a) rfl ?_);refine Ja (wpAny_seqItems ha rfl ?_);show wpAny _ _ (Builtin.SmallTypes.ownedTupleIsFree (.ref y) >>=_) _ _ _;refine Ja ?_;unfold Builtin.SmallTypes.ownedTupleIsFree;refine Ja (wpAny_field hz rfl (x:=.none) rfl (wpAny_pure ?_));simp only[if_true];refine Ja (wpAny_rule ?_);refine Ja (wpAny_field hz rfl (x:=.ref o) rfl ?_);refine Ja (wpAny_setField_rec hz (by simp) λg1 hz1 s1=>?_);replace hz1:IsZip g1 y a o .ellipsis:=hz1;refine Ja ?_;simp only[List.zipIdx_cons,List.zipIdx_nil,List.forIn_cons,List.forIn_nil];refine Ja (Ja (wpAny_onRaise ?_));show wpAny _ _ (Builtin.SmallTypes.nextOf (.ref i) >>=_) _ _ _;refine Ja (zgz (hi.extBut s1.extBut D.i1z) (hp.extBut s1.extBut D.l1z) hu λg2 i2 s2=>wpAny_pure ?_);have ho2:IsPair g2 o b c:=s2.extBut _ _ D.TOi1 (s1.extBut _ _ D.TOz ho);refine Ja (wpAny_seqItems ho2 rfl ?_);refine Ja (wpAny_updateSeq_pair ho2 λg3 ho3 s3=>?_);replace ho3:IsPair g3 o u c:=ho3;refine Ja (wpAny_letGo (wpAny_pure ?_));refine Ja (Ja (wpAny_onRaise ?_));show wpAny _ _ (Builtin.SmallTypes.nextOf (.ref k) >>=_) _ _ _;refine Ja (zgz (((hk.extBut s1.extBut D.i2z).extBut s2.extBut D.i12.symm).extBut s3.extBut D.TOi2.symm) (((hq.extBut s1.extBut D.l2z).extBut s2.extBut D.l2i1).extBut s3.extBut D.l2TO) hv λg4 k4 s4=>wpAny_pure ?_);have ho4:IsPair g4 o u c:=s4.extBut _ _ D.TOi2 ho3;refine Ja (wpAny_seqItems ho4 rfl ?_);refine Ja (wpAny_updateSeq_pair ho4 λg5 ho5 s5=>?_);replace ho5:IsPair g5 o u v:=ho5;refine Ja (wpAny_letGo (wpAny_pure (wpAny_pure ?_)));refine Ja (wpAny_seqItems ho5 rfl ?_);refine Ja (wpAny_newTuple ?_);have sz:g5.objs.size=z.heap.objs.size:=by rw[s5.1,s4.1,s3.1,s2.1,s1.1]
  have hz5:IsZip g5 y a o .ellipsis:=s5.extBut _ _ D.TOz.symm (s4.extBut _ _ D.i2z.symm (s3.extBut _ _ D.TOz.symm (s2.extBut _ _ D.i1z.symm hz1)));have up5:∀c r,c≠y->c≠o->c≠i->c≠k->z.heap.get? c=some r->g5.get? c=some r:=λc r c1 c2 c3 c4 e=>s5.extBut _ _ c2 (s4.extBut _ _ c4 (s3.extBut _ _ c2 (s2.extBut _ _ c3 (s1.extBut _ _ c1 e))));have hi5:g5.IsTupleIter i p (n+1):=((i2.extBut s3.extBut D.TOi1.symm).extBut s4.extBut D.i12).extBut s5.extBut D.TOi1.symm;have hk5:g5.IsTupleIter k q (n+1):=k4.extBut s5.extBut D.TOi2.symm;have ly:y < g5.objs.size:=Heap.lt_size hz5;show wpAny _ _ (Builtin.SmallTypes.ownedTupleHandOut (.ref y) (.ref g5.objs.size) >>=_) _ _ _;refine Ja ?_;unfold Builtin.SmallTypes.ownedTupleHandOut;have hz6:IsZip (g5.push {cls:=.type "tuple",data:=.seq #[u,v]}) y a o .ellipsis:=Heap.get?_push_of_some _ hz5;refine Ja (wpAny_setField_rec hz6 (by simp) λg7 hz7 s7=>?_);replace hz7:IsZip g7 y a o (rawInt g5.objs.size):=hz7;refine wpAny_setField_rec hz7 (by simp) λg8 hz8 s8=>?_;replace hz8:IsZip g8 y a o (rawInt g5.objs.size):=hz8;have up:∀c r,c≠y->g5.get? c=some r->g8.get? c=some r:=λc r c1 e=>s8.extBut _ _ c1 (s7.extBut _ _ c1 (Heap.get?_push_of_some _ e));have new8:IsPair g8 g5.objs.size u v:=s8.extBut _ _ (Nat.ne_of_gt ly) (s7.extBut _ _ (Nat.ne_of_gt ly) (Heap.get?_push_size _ rfl));have sz8:g8.objs.size=g5.objs.size+1:=by rw[s8.1,s7.1,Heap.size_push]
  rw[sz] at hz8 new8 sz8;refine wpAny_pure ⟨_,rfl,?_⟩;show Q (some (.ref g5.objs.size)) _;rw[sz];have upz:∀c r,c≠y->c≠o->c≠i->c≠k->z.heap.get? c=some r->g8.get? c=some r:=λc r c1 c2 c3 c4 e=>up c r c1 (up5 c r c1 c2 c3 c4 e);refine fin g8 ⟨hz8,upz _ _ D.TIz D.TITO D.TIi1 D.TIi2 ha,⟨_,_,up _ _ D.TOz ho5⟩,?_,?_,?_,?_⟩ new8 sz8 upz
  ·obtain⟨r,e,x⟩:=hi5;exact⟨r,up _ r D.i1z e,x⟩
  ·obtain⟨r,e,x⟩:=hk5;exact⟨r,up _ r D.i2z e,x⟩
  ·obtain⟨r,e,x⟩:=hp;exact⟨r,upz _ r D.l1z D.l1TO D.l1i1 D.l1i2 e,x⟩
  ·obtain⟨r,e,x⟩:=hq;exact⟨r,upz _ r D.l2z D.l2TO D.l2i1 D.l2i2 e,x⟩
 unfold pyNext;exact Ja (wpAny_attempt (wpAny_callSpecial?_slot (name:=Str.ofString "__next__") tz F.slot_zip_next (wpAny_call_entry F.slot_zip_next tz F.entry_zip_next (wpAny_mono main (λr s' ⟨v,e,h⟩=>⟨v,e,wpAny_pure h⟩) λ_ _ x=>x.2.elim) (F.args_zip_next_1 _))))
theorem zm9 {y a o i k p q:Addr}{n:Nat}{xs us:Array Value}{Q:Option Value->Shared->Prop}(hh:A.handled=none)(D:ZipApart y a o i k p q)(S:ZSt z.heap y a o i k p q n xs us .none)(he:xs[n]? =none\/us[n]? =none)
  (fin:∀g,(∀c r,c≠y->c≠o->c≠i->c≠k->z.heap.get? c=some r->g.get? c=some r)->Q none {z with heap:=g}):wpAny (model P W) A (pyNext (.ref y)) Q E z:=by
 obtain⟨hz,ha,⟨b,c,ho⟩,hi,hk,hp,hq⟩:=S;have tz:z.TypeIs (.ref y) "zip" :=⟨_,hz,rfl⟩;have main:wpAny (model P W) A.in1 (Builtin.«zip.__next__» ⟨[.ref y],[]⟩) (λ_ _=>False) (λe s'=>∃g x,e=.ref x/\s'={z with heap:=g}/\(∀c r,c≠y->c≠o->c≠i->c≠k->z.heap.get? c=some r->g.get? c=some r)/\∃r,g.get? x=some r/\r.cls=.type "StopIteration") z:=by
  show wpAny _ _ (field (.ref y) 2 >>=_) _ _ _;refine Ja (wpAny_field hz rfl (x:=.bool false) rfl ?_);show wpAny _ _ (field (.ref y) 3 >>=_) _ _ _;refine Ja (wpAny_field hz rfl (x:=.ref a) rfl ?_);refine Ja (wpAny_seqItems ha rfl ?_);show wpAny _ _ (Builtin.SmallTypes.ownedTupleIsFree (.ref y) >>=_) _ _ _;refine Ja ?_;unfold Builtin.SmallTypes.ownedTupleIsFree;refine Ja (wpAny_field hz rfl (x:=.none) rfl (wpAny_pure ?_));simp only[if_true];refine Ja (wpAny_rule ?_);refine Ja (wpAny_field hz rfl (x:=.ref o) rfl ?_);refine Ja (wpAny_setField_rec hz (by simp) λg1 hz1 s1=>?_);replace hz1:IsZip g1 y a o .ellipsis:=hz1;refine Ja ?_;simp only[List.zipIdx_cons,List.zipIdx_nil,List.forIn_cons,List.forIn_nil];refine Ja (Ja (wpAny_onRaise ?_));show wpAny _ _ (Builtin.SmallTypes.nextOf (.ref i) >>=_) _ _ _;cases hu:xs[n]? with
  | none=>
   refine Ja (ziY (A:=A.in1) (show A.in1.handled=none from hh) (hi.extBut s1.extBut D.i1z) (hp.extBut s1.extBut D.l1z) hu λg2 e s2 he2=>?_);obtain⟨r,er,cr⟩:=he2;have hz2:IsZip g2 y a o .ellipsis:=s2 _ _ D.i1z.symm hz1;have ne:e≠y:=λx=>by subst x;rw[hz2] at er;cases er;simp at cr
   exact wpAny_setField_rec hz2 (by simp) λg3 _ s3=>⟨g3,e,rfl,rfl,λc r c1 _ c3 _ x=>s3.extBut _ _ c1 (s2 _ _ c3 (s1.extBut _ _ c1 x)),r,s3.extBut _ _ ne er,cr⟩
  | some u=>
   have hv:us[n]? =none:=he.elim (λz=>by rw[hu] at z;cases z) id;refine Ja (zgz (hi.extBut s1.extBut D.i1z) (hp.extBut s1.extBut D.l1z) hu λg2 i2 s2=>wpAny_pure ?_);have ho2:IsPair g2 o b c:=s2.extBut _ _ D.TOi1 (s1.extBut _ _ D.TOz ho);refine Ja (wpAny_seqItems ho2 rfl ?_);refine Ja (wpAny_updateSeq_pair ho2 λg3 ho3 s3=>?_);refine Ja (wpAny_letGo (wpAny_pure ?_));refine Ja (Ja (wpAny_onRaise ?_));show wpAny _ _ (Builtin.SmallTypes.nextOf (.ref k) >>=_) _ _ _;refine Ja (ziY (A:=A.in1) (show A.in1.handled=none from hh) (((hk.extBut s1.extBut D.i2z).extBut s2.extBut D.i12.symm).extBut s3.extBut D.TOi2.symm) (((hq.extBut s1.extBut D.l2z).extBut s2.extBut D.l2i1).extBut s3.extBut D.l2TO) hv λg4 e s4 he4=>?_);obtain⟨r,er,cr⟩:=he4;have hz4:IsZip g4 y a o .ellipsis:=s4 _ _ D.i2z.symm (s3.extBut _ _ D.TOz.symm (s2.extBut _ _ D.i1z.symm hz1));have ne:e≠y:=λx=>by subst x;rw[hz4] at er;cases er;simp at cr
   exact wpAny_setField_rec hz4 (by simp) λg5 _ s5=>⟨g5,e,rfl,rfl,λc r c1 c2 c3 c4 x=>s5.extBut _ _ c1 (s4 _ _ c4 (s3.extBut _ _ c2 (s2.extBut _ _ c3 (s1.extBut _ _ c1 x)))),r,s5.extBut _ _ ne er,cr⟩
 unfold pyNext;refine Ja (wpAny_attempt (wpAny_callSpecial?_slot (name:=Str.ofString "__next__") tz F.slot_zip_next (wpAny_call_entry F.slot_zip_next tz F.entry_zip_next (wpAny_mono main (λ_ _ x=>x.elim) λe s' h=>?_) (F.args_zip_next_1 _))));obtain⟨g,x,rfl,rfl,up,r,er,cr⟩:=h;exact Ja (wpAny_isInstance (T:= "StopIteration") (b:=true) ⟨r,er,cr⟩ isSubtype_stop (wpAny_pure (fin _ up)))
noncomputable abbrev tz1 (g:Heap)(p:Addr):Heap:=g.push {cls:=.type "tuple_iterator",data:=.fields #[.ref p,.int 0 0]}
noncomputable abbrev tz2 (g:Heap)(p q:Addr):Heap:=(tz1 g p).push {cls:=.type "tuple_iterator",data:=.fields #[.ref q,.int 0 0]}
noncomputable abbrev tz3 (g:Heap)(p q:Addr):Heap:=(tz2 g p q).push {cls:=.type "tuple",data:=.seq #[.ref g.objs.size,.ref (tz1 g p).objs.size]}
noncomputable abbrev tz4 (g:Heap)(p q:Addr):Heap:=(tz3 g p q).push {cls:=.type "tuple",data:=.seq #[.none,.none]}
noncomputable abbrev tz5 (g:Heap)(p q:Addr):Heap:=(tz4 g p q).push {cls:=.type "zip",data:=.fields #[.none,.bool false,.bool false,.ref (tz2 g p q).objs.size,.ref (tz3 g p q).objs.size]}
theorem zmw {p q:Addr}{xs us:Array Value}{Q:QC}(hp:z.heap.IsTuple p xs)(hq:z.heap.IsTuple q us)
  (fin:∀g,ZSt g (z.heap.objs.size+4) (z.heap.objs.size+2) (z.heap.objs.size+3) z.heap.objs.size (z.heap.objs.size+1) p q 0 xs us .none->g.objs.size=z.heap.objs.size+5->(∀c r,z.heap.get? c=some r->g.get? c=some r)->Q (.ref (z.heap.objs.size+4)) {z with heap:=g}):
  wpAny (model P W) A (call (.type "zip") [.ref p,.ref q]) Q E z:=by
 have M:Meets (Builtin.«zip.__new__» ⟨[.type "zip",.ref p,.ref q],[]⟩) (λ_ R s=>s.heap.IsTuple p xs/\s.heap.IsTuple q us/\R (.ok (.ret (.ref (tz4 s.heap p q).objs.size))) {s with heap:=tz5 s.heap p q}):=
  .of_wp λprog w A R s h=>by
   obtain⟨hp0,g,d,tk,os⟩:=s;obtain⟨h1,h2,h⟩:=h;have hsub:=sub_zip;have L1:Heap.IsTuple (Shared.heap ⟨hp0,g,d,tk,os⟩) p xs:=h1;have L2:Heap.IsTuple (Shared.heap ⟨hp0.push {cls:=.type "tuple_iterator",data:=.fields #[.ref p,.int 0 0]},g,d,tk,os⟩) q us:=by obtain⟨r,e,x⟩:=h2;exact⟨r,Heap.get?_push_of_some _ e,x⟩
   wp_walk using wpAny_pyIter_tuple L1,wpAny_pyIter_tuple L2
   exact⟨_,rfl,h⟩
 have n1:(tz1 z.heap p).objs.size=z.heap.objs.size+1:=Heap.size_push ..;have n2:(tz2 z.heap p q).objs.size=z.heap.objs.size+2:=by rw[Heap.size_push,n1]
 have n3:(tz3 z.heap p q).objs.size=z.heap.objs.size+3:=by rw[Heap.size_push,n2]
 have n4:(tz4 z.heap p q).objs.size=z.heap.objs.size+4:=by rw[Heap.size_push,n3]
 have n5:(tz5 z.heap p q).objs.size=z.heap.objs.size+5:=by rw[Heap.size_push,n4]
 have a5:(tz5 z.heap p q).get? (tz4 z.heap p q).objs.size=some _:=Heap.get?_push_size _ rfl;have a4:(tz5 z.heap p q).get? (tz3 z.heap p q).objs.size=some _:=Heap.get?_push_of_some _ (Heap.get?_push_size _ rfl);have a3:(tz5 z.heap p q).get? (tz2 z.heap p q).objs.size=some _:=Heap.get?_push_of_some _ (Heap.get?_push_of_some _ (Heap.get?_push_size _ rfl));have a2:(tz5 z.heap p q).get? (tz1 z.heap p).objs.size=some _:=Heap.get?_push_of_some _ (Heap.get?_push_of_some _ (Heap.get?_push_of_some _ (Heap.get?_push_size _ rfl)));have a1:(tz5 z.heap p q).get? z.heap.objs.size=some _:=Heap.get?_push_of_some _ (Heap.get?_push_of_some _ (Heap.get?_push_of_some _ (Heap.get?_push_of_some _ (Heap.get?_push_size _ rfl))));have up:∀c r,z.heap.get? c=some r->(tz5 z.heap p q).get? c=some r:=λc r x=>Heap.get?_push_of_some _ (Heap.get?_push_of_some _ (Heap.get?_push_of_some _ (Heap.get?_push_of_some _ (Heap.get?_push_of_some _ x))));rw[n2,n3,n4] at a5;rw[n1,n2] at a3;rw[n3] at a4;rw[n1] at a2;refine callType_new F.called_zip (by decide) (F.typeCall_zip_2 _ _) (F.newCall_zip_2 _ _) (λobj=>F.args_object_init_3 obj _ _) F.entry_zip_new M ⟨hp,hq,?_⟩;show _/\_;rw[n4];refine⟨⟨_,a5,rfl⟩,fin _ ⟨a5,a3,⟨_,_,a4⟩,⟨_,a1,rfl,rfl⟩,⟨_,a2,rfl,rfl⟩,?_,?_⟩ n5 up⟩
 ·obtain⟨r,e,x⟩:=hp;exact⟨r,up _ _ e,x⟩
 ·obtain⟨r,e,x⟩:=hq;exact⟨r,up _ _ e,x⟩
end
structure ZI (g:Heap)(y a o i k p q:Addr)(n:Nat)(f:Value):Prop where
 zp:IsZip g y a o f
 its:IsPair g a (.ref i) (.ref k)
 own:∃b c,IsPair g o b c
 i1:g.IsTupleIter i p n
 i2:g.IsTupleIter k q n
theorem ZSt.zi {g:Heap}{y a o i k p q:Addr}{n:Nat}{xs us:Array Value}{f:Value}(S:ZSt g y a o i k p q n xs us f):ZI g y a o i k p q n f:=⟨S.zp,S.its,S.own,S.i1,S.i2⟩
noncomputable def Itz (K:QA)(p q:Addr)(xs us:QQ):It:=
 ⟨λn H=>SqT K H p xs/\SqT K H q us/\n < min xs.length us.length,λn H v H'=>∃(T:Addr) (x u:V),H T=none/\xs[n]? =some x/\us[n]? =some u/\v=.ref T/\H'=upd H T (.tup [x,u]),λn H=>SqT K H p xs/\SqT K H q us/\min xs.length us.length<=n⟩
theorem zmN {P:Program}{w:World}{K:QA}{elts:List Expr}{x1:Nat}{tpos:Pos}{y a o i k p q:Addr}{xs us:QQ}(D:ZipApart y a o i k p q):
  Turn P w K (.Tuple elts x1 tpos) (Itz K p q xs us) [y,a,o,i,k] y (λn h=>ZI h y a o i k p q n .none) where
 mem:=by simp
 obj:=λn h st b hb=>by
  obtain⟨hz,ha,⟨b1,b2,ho⟩,⟨r1,e1,_,d1⟩,⟨r2,e2,_,d2⟩⟩:=st;simp only[List.mem_cons,List.not_mem_nil,or_false] at hb;rcases hb with rfl | rfl | rfl | rfl | rfl
  ·exact⟨_,hz,λv z=>by cases z⟩
  ·exact⟨_,ha,λv z=>by cases z⟩
  ·exact⟨_,ho,λv z=>by cases z⟩
  ·exact⟨_,e1,λv z=>by rw[d1] at z;cases z⟩
  ·exact⟨_,e2,λv z=>by rw[d2] at z;cases z⟩
 keep:=λn h h' st kp=>by obtain⟨hz,ha,⟨b1,b2,ho⟩,⟨r1,e1,x1⟩,⟨r2,e2,x2⟩⟩:=st;exact⟨kp y (by simp) _ hz,kp a (by simp) _ ha,⟨b1,b2,kp o (by simp) _ ho⟩,⟨r1,kp i (by simp) _ e1,x1⟩,⟨r2,kp k (by simp) _ e2,x2⟩⟩
 item:=by
  intro X hP hw hK hc n pins s σ H E I hf st hg;subst hP hw hK;obtain⟨hp,hq,hn⟩:=hg;obtain⟨its,r1,T1,z1⟩:=I.tuple hp;obtain⟨jts,r2,T2,z2⟩:=I.tuple hq;have hx:xs[n]? =some xs[n]:=List.getElem?_eq_getElem (by omega);have hu:us[n]? =some us[n]:=List.getElem?_eq_getElem (by omega);obtain⟨v1,e1,q1⟩:=r1.get hx;obtain⟨v2,e2,q2⟩:=r2.get hu;have fy:=hf y (by simp);have fa:=hf a (by simp);have fo:=hf o (by simp);have fi:=hf i (by simp);have fk:=hf k (by simp);have S:ZSt s.heap y a o i k p q n its.toArray jts.toArray .none:=⟨st.zp,st.its,st.own,st.i1,st.i2,T1,T2⟩;refine znN D S (u:=v1) (v:=v2) (by simpa using e1) (by simpa using e2) λg Sg new sz up=>?_;have hT:H s.heap.objs.size=none:=I.hok.fresh (Jb _);have inch:∀{b:Addr},H b≠none->b≠y/\b≠o/\b≠i/\b≠k:=λ{b} h=>⟨λz=>h (by rw[z];exact fy.1),λz=>h (by rw[z];exact fo.1),λz=>h (by rw[z];exact fi.1),λz=>h (by rw[z];exact fk.1)⟩;have hok:HOk X.prog X.w (upd H s.heap.objs.size (.tup [xs[n],us[n]])) g:=λb u e=>by
   by_cases hb:b=s.heap.objs.size
   ·subst hb;rw[zj] at e;cases e;refine⟨by simp only[List.length_cons,List.length_nil];rw[sizeLine_eq];decide,[v1,v2],.cons q1 (.cons q2 .nil),⟨_,new,rfl,_,rfl⟩⟩
   ·rw[zl hb] at e;refine(I.hok b u e).stay (λc r hc q=>?_) (λc q=>by rw[zl (zo q hT)];exact q) λc ys q=>by rw[zl (zo q hT)];exact q
    have hne:H c≠none:=by
     rcases hc with rfl | hc
     ·rw[e];intro z;cases z
     ·rw[hc];intro z;cases z
    obtain⟨c1,c2,c3,c4⟩:=inch hne;exact up c r c1 c2 c3 c4 q
  have I1:Inv X pins σ (upd H s.heap.objs.size (.tup [xs[n],us[n]])) {s with heap:=g}:=by
   refine I.step (g':=s.gens) (d':=s.drawn) (t':=s.toks) (ch:=[y,o,i,k]) (λb hb=>?_) (λb r _ _ hc e _=>?_) (λb r _ _ hc e _=>⟨r.slots,?_⟩) (λb r hc e hn=>?_) (λb r hc e=>⟨r,?_⟩) (λb ys e=>by rw[zl (zo e hT)];exact e)
    (λb r ys e=>by rw[zl (zo e hT)];exact e) (λb ps e=>⟨#[],by rw[zl (zo e hT),e];simp⟩) (λm hm=>?_) hok I.bare
   ·simp only[List.mem_cons,List.not_mem_nil,or_false] at hb;rcases hb with rfl | rfl | rfl | rfl
    ·exact⟨fy.2.2.2.1,fy.2.1,fy.2.2.2.2.1,fy.2.2.2.2.2⟩
    ·exact⟨fo.2.2.2.1,fo.2.1,fo.2.2.2.2.1,fo.2.2.2.2.2⟩
    ·exact⟨fi.2.2.2.1,fi.2.1,fi.2.2.2.2.1,fi.2.2.2.2.2⟩
    ·exact⟨fk.2.2.2.1,fk.2.1,fk.2.2.2.2.1,fk.2.2.2.2.2⟩
   ·simp only[List.mem_cons,List.not_mem_nil,or_false,not_or] at hc;exact up b r hc.1 hc.2.1 hc.2.2.1 hc.2.2.2 e
   ·simp only[List.mem_cons,List.not_mem_nil,or_false,not_or] at hc;exact up b r hc.1 hc.2.1 hc.2.2.1 hc.2.2.2 e
   ·rw[zl (Jm (Heap.lt_size e))];exact hn
   ·simp only[List.mem_cons,List.not_mem_nil,or_false,not_or] at hc;exact up b r hc.1 hc.2.1 hc.2.2.1 hc.2.2.2 e
   ·obtain⟨r,es,ep,er,d⟩:=hm;exact⟨r,es,ep,up _ r (Ne.symm fy.2.1) (Ne.symm fo.2.1) (Ne.symm fi.2.1) (Ne.symm fk.2.1) er,d⟩
  have hfp:∀b∈ [y,a,o,i,k],upd H s.heap.objs.size (.tup [xs[n],us[n]]) b=none:=λb hb=>by
   have fb:=hf b hb;have lt:b < s.heap.objs.size:=by
    obtain⟨hz,ha,⟨b1,b2,ho⟩,⟨r1,e1,_⟩,⟨r2,e2,_⟩⟩:=st;simp only[List.mem_cons,List.not_mem_nil,or_false] at hb;rcases hb with rfl | rfl | rfl | rfl | rfl
    ·exact Heap.lt_size hz
    ·exact Heap.lt_size ha
    ·exact Heap.lt_size ho
    ·exact Heap.lt_size e1
    ·exact Heap.lt_size e2
   rw[zl (Jm lt)];exact fb.1
  refine⟨_,rfl,wpAny_letOwnedTupleGo_zip Sg.zp λg2 hz2 s2=>?_⟩;refine⟨.ref s.heap.objs.size,_,I1.turned (it:=y) (t':=s.toks) (λb r hb e=>s2.extBut _ _ hb e) (hfp y (by simp)) fy.2.1 fy.2.2.2.1 fy.2.2.2.2.1 fy.2.2.2.2.2,rfl,⟨_,_,_,hT,hx,hu,rfl,rfl⟩,⟨hz2,s2.extBut _ _ D.TIz Sg.its,?_,Sg.i1.extBut s2.extBut D.i1z,Sg.i2.extBut s2.extBut D.i2z⟩,hfp⟩;obtain⟨b1,b2,ho⟩:=Sg.own;exact⟨b1,b2,s2.extBut _ _ D.TOz ho⟩
 done:=by
  intro X hP hw hK hc n pins s σ H E I hf st hg;subst hP hw hK;obtain⟨hp,hq,hn⟩:=hg;obtain⟨its,r1,T1,z1⟩:=I.tuple hp;obtain⟨jts,r2,T2,z2⟩:=I.tuple hq;have fy:=hf y (by simp);have fo:=hf o (by simp);have fi:=hf i (by simp);have fk:=hf k (by simp);have S:ZSt s.heap y a o i k p q n its.toArray jts.toArray .none:=⟨st.zp,st.its,st.own,st.i1,st.i2,T1,T2⟩;have l1:=r1.length;have l2:=r2.length;have he:its.toArray[n]? =none\/jts.toArray[n]? =none:=by
   by_cases h:xs.length<=n
   ·exact .inl (by simp;omega)
   ·exact .inr (by simp;omega)
  refine zm9 (I.ok.hd hc) D S he λg up=>⟨rfl,?_⟩;have inch:∀{b:Addr},H b≠none->b≠y/\b≠o/\b≠i/\b≠k:=λ{b} h=>⟨λz=>h (by rw[z];exact fy.1),λz=>h (by rw[z];exact fo.1),λz=>h (by rw[z];exact fi.1),λz=>h (by rw[z];exact fk.1)⟩;refine I.step (g':=s.gens) (d':=s.drawn) (t':=s.toks) (ch:=[y,o,i,k]) (λb hb=>?_) (λb r _ _ hc e _=>?_) (λb r _ _ hc e _=>⟨r.slots,?_⟩) (λb r hc e hn=>hn) (λb r hc e=>⟨r,?_⟩) (λb ys e=>e) (λb r ys e=>e) (λb ps e=>⟨#[],by rw[e];simp⟩) (λm hm=>?_) (λb u e=>?_) I.bare
  ·simp only[List.mem_cons,List.not_mem_nil,or_false] at hb;rcases hb with rfl | rfl | rfl | rfl
   ·exact⟨fy.2.2.2.1,fy.2.1,fy.2.2.2.2.1,fy.2.2.2.2.2⟩
   ·exact⟨fo.2.2.2.1,fo.2.1,fo.2.2.2.2.1,fo.2.2.2.2.2⟩
   ·exact⟨fi.2.2.2.1,fi.2.1,fi.2.2.2.2.1,fi.2.2.2.2.2⟩
   ·exact⟨fk.2.2.2.1,fk.2.1,fk.2.2.2.2.1,fk.2.2.2.2.2⟩
  ·simp only[List.mem_cons,List.not_mem_nil,or_false,not_or] at hc;exact up b r hc.1 hc.2.1 hc.2.2.1 hc.2.2.2 e
  ·simp only[List.mem_cons,List.not_mem_nil,or_false,not_or] at hc;exact up b r hc.1 hc.2.1 hc.2.2.1 hc.2.2.2 e
  ·simp only[List.mem_cons,List.not_mem_nil,or_false,not_or] at hc;exact up b r hc.1 hc.2.1 hc.2.2.1 hc.2.2.2 e
  ·obtain⟨r,es,ep,er,d⟩:=hm;exact⟨r,es,ep,up _ r (Ne.symm fy.2.1) (Ne.symm fo.2.1) (Ne.symm fi.2.1) (Ne.symm fk.2.1) er,d⟩
  ·refine(I.hok b u e).stay (λc r hc q=>?_) (λ_ q=>q) λ_ _ q=>q;have hne:H c≠none:=by
    rcases hc with rfl | hc
    ·rw[e];intro z;cases z
    ·rw[hc];intro z;cases z
   obtain⟨c1,c2,c3,c4⟩:=inch hne;exact up c r c1 c2 c3 c4 q
 self:=λ_ _ _ _ _ st h=>wpAny_pyIter_zip st.zp h
theorem zqc (n p q:Nat)(h1:p < n)(h2:q < n):ZipApart (n+4) (n+2) (n+3) n (n+1) p q where
 TIz:=show(n+2:Nat)≠n+4 by omega
 TOz:=show(n+3:Nat)≠n+4 by omega
 i1z:=show(n:Nat)≠n+4 by omega
 i2z:=show(n+1:Nat)≠n+4 by omega
 TITO:=show(n+2:Nat)≠n+3 by omega
 TIi1:=show(n+2:Nat)≠n by omega
 TIi2:=show(n+2:Nat)≠n+1 by omega
 TOi1:=show(n+3:Nat)≠n by omega
 TOi2:=show(n+3:Nat)≠n+1 by omega
 i12:=show(n:Nat)≠n+1 by omega
 l1z:=show(p:Nat)≠n+4 by omega
 l1TO:=show(p:Nat)≠n+3 by omega
 l1i1:=show(p:Nat)≠n by omega
 l1i2:=show(p:Nat)≠n+1 by omega
 l2z:=show(q:Nat)≠n+4 by omega
 l2TO:=show(q:Nat)≠n+3 by omega
 l2i1:=show(q:Nat)≠n by omega
 l2i2:=show(q:Nat)≠n+1 by omega
section
variable {X:Cx}
def iZip (K:QA)(ta:TA):TI:=fun σ H R=>ta σ H λvs H1=>∃(p q:Addr) (xs us:QQ),vs=[.ref p,.ref q]/\SqT K H1 p xs/\SqT K H1 q us/\R (Itz K p q xs us) H1
noncomputable abbrev _root_.JG:=@Nat.le_add_right
theorem zqB {elts:List Expr}{x1:Nat}{tpos:Pos}{a b:Expr}{ta:TA}{p pos:Pos}(hg:Gl X "zip") (hm:X.mg "zip" =none) (ha:PA X [a,b] ta) (hs:starEach [a,b] X.env=[(false,eval a X.env),(false,eval b X.env)]:=by rfl) (hs2:starEach [b] X.env=[(false,eval b X.env)]:=by rfl):
  PI X (.Tuple elts x1 tpos) (.Call (.Name "zip" p) [a,b] [] pos) (iZip X.K ta):=by
 intro pins s σ H R I h;refine Call_ (zcK I hg hm (u:=.type "zip") (by rfl) (PyProof.Rows.callWith_type1 (thn (ha pos pins s σ H _ I h) λus s1 ⟨vs,H1,I1,r1,q1⟩=>?_) (by rw[hs,hs2]) (by rw[hs2];rfl)));obtain⟨p1,p2,xs,ys,rfl,hp,hq,q⟩:=q1;obtain⟨u,w',rfl,ru,rw'⟩:=vals2 r1;cases (show u=Value.ref _ from ru);cases (show w'=Value.ref _ from rw');obtain⟨its,r1,T1,z1⟩:=I1.tuple hp;obtain⟨jts,r2,T2,z2⟩:=I1.tuple hq;refine zmw T1 T2 λg S sz up=>wpAny_pyIter_zip S.zp ?_;have lt1:p1 < s1.heap.objs.size:=by obtain⟨r,e,_⟩:=T1;exact Heap.lt_size e
 have lt2:p2 < s1.heap.objs.size:=by obtain⟨r,e,_⟩:=T2;exact Heap.lt_size e
 refine⟨_,_,_,_,H1,rfl,I1.kept (t':=s1.toks) up,zmN (zqc _ _ _ lt1 lt2),S.zi,λb hb=>?_,q⟩;have hb':s1.heap.objs.size<=b:=by
  simp only[List.mem_cons,List.not_mem_nil,or_false] at hb;rcases hb with rfl | rfl | rfl | rfl | rfl
  ·exact JG _ _
  ·exact JG _ _
  ·exact JG _ _
  ·exact Jb _
  ·exact JG _ _
 exact I1.fpOk hb' (I1.hok.fresh hb')
theorem zoy {K:QA}{p q:Addr}{xs us:QQ}{g:TG}{tb:TS}{D:Ends}{σ:St}{H:Hp}(Pv:Nat->St->Hp->Prop)(h0:Pv 0 σ H)(hl:∀i σ H,Pv i σ H->SqT K H p xs/\SqT K H q us)
  (hs:∀i x u T σ H,xs[i]? =some x->us[i]? =some u->H T=none->Pv i σ H->g (.ref T) σ (upd H T (.tup [x,u])) fun σ2 H2=>tb {D with nx:=Pv (i+1),ct:=Pv (i+1),bk:=D.nx} σ2 H2) (hd:∀σ H,Pv (min xs.length us.length) σ H->D.nx σ H):
  ∃W:Nat->Nat->St->Hp->Prop,(∃m,W 0 m σ H)/\∀i m σ H,W i m σ H->
   ((Itz K p q xs us).stop i H/\D.nx σ H)\/((Itz K p q xs us).go i H/\∃N:St->Hp->Prop,(∀σ' H',N σ' H'->∃m',m' < m/\W (i+1) m' σ' H')/\∀x H',(Itz K p q xs us).yld i H x H'->g x σ H' fun σ2 H2=>tb {D with nx:=N,ct:=N,bk:=D.nx} σ2 H2):=by
 refine⟨λi m σ H=>m=min xs.length us.length - i/\i<=min xs.length us.length/\Pv i σ H,⟨_,rfl,Nat.zero_le _,h0⟩,?_⟩;rintro i m σ H ⟨rfl,hi,p⟩;have q:=hl i σ H p;by_cases hlt:i < min xs.length us.length
 ·refine .inr ⟨⟨q.1,q.2,hlt⟩,Pv (i+1),fun σ' H' p'=>⟨_,by omega,rfl,hlt,p'⟩,λx H' y=>?_⟩;obtain⟨T,a,b,hT,e1,e2,rfl,rfl⟩:=y;exact hs i a b T σ H e1 e2 hT p
 ·have e:i=min xs.length us.length:=by omega
  subst e;exact .inl ⟨⟨q.1,q.2,Jb _⟩,hd σ H p⟩
end
end L2
namespace Pv
open PySem L2
mutual
noncomputable def eqT:Th->Th->Bool
 | .non,.non=>true
 | .int a,.int b=>a==b
 | .str a,.str b=>a==b
 | .tup a,.tup b=>eqL a b
 | _,_=>false
noncomputable def eqL:List Th->List Th->Bool
 | [],[]=>true
 | t::r,u::q=>eqT t u && eqL r q
 | _,_=>false
end
mutual
theorem za3:∀t u:Th,eqT t u=true↔t=u
 | .non,.non=>by simp[eqT]
 | .non,.int _=>by simp[eqT]
 | .non,.str _=>by simp[eqT]
 | .non,.tup _=>by simp[eqT]
 | .int _,.non=>by simp[eqT]
 | .int a,.int b=>by simp[eqT]
 | .int _,.str _=>by simp[eqT]
 | .int _,.tup _=>by simp[eqT]
 | .str _,.non=>by simp[eqT]
 | .str _,.int _=>by simp[eqT]
 | .str a,.str b=>by simp[eqT]
 | .str _,.tup _=>by simp[eqT]
 | .tup _,.non=>by simp[eqT]
 | .tup _,.int _=>by simp[eqT]
 | .tup _,.str _=>by simp[eqT]
 | .tup a,.tup b=>by have:=zkV a b;simp[eqT,this]
theorem zkV:∀a b:List Th,eqL a b=true↔a=b
 | [],[]=>by simp[eqL]
 | [],_::_=>by simp[eqL]
 | _::_,[]=>by simp[eqL]
 | t::r,u::q=>by have h1:=za3 t u;have h2:=zkV r q;simp[eqL,h1,h2]
end
theorem zaP (t:Th):eqT t t=true:=(za3 t t).mpr rfl
theorem ze9:∀a b:List Th,eqL a b=((List.range (min a.length b.length)).all (λj=>eqT (a[j]?.getD .non) (b[j]?.getD .non)) && a.length==b.length)
 | [],[]=>rfl
 | [],_::_=>by simp[eqL]
 | _::_,[]=>by simp[eqL]
 | t::r,u::q=>by
  have h:=ze9 r q;show(eqT t u && eqL r q)=_;rw[h,List.length_cons,List.length_cons,Nat.succ_min_succ,List.range_succ_eq_map,List.all_cons,List.all_map];have e:(λj=>eqT ((t::r)[j]?.getD .non) ((u::q)[j]?.getD .non)) ∘ Nat.succ=λj=>eqT (r[j]?.getD .non) (q[j]?.getD .non):=by funext j;simp
  rw[e];have e2:(r.length+1==q.length+1)=(r.length==q.length):=by rw[Bool.eq_iff_iff];simp
  rw[e2,Bool.and_assoc]
  rfl
theorem Rep.inj {H:Hp}{t u:Th}{v:V}(r:Rep H t v)(q:Rep H u v):t=u:=by
 induction r generalizing u with
 | non=>cases q;rfl
 | int i=>cases q;rfl
 | str x=>cases q;rfl
 | @tup a xs ts e l h ih=>
  cases q with
  | @tup _ ys us e' l' h'=>
   rw[e] at e';cases e';refine congrArg Th.tup (List.ext_getElem? λi=>?_);by_cases hi:i < xs.length
   ·have h1:ts[i]? =some ts[i]:=List.getElem?_eq_getElem (by omega);have h2:us[i]? =some us[i]:=List.getElem?_eq_getElem (by omega);rw[h1,h2,ih i xs[i] ts[i] (List.getElem?_eq_getElem hi) h1 (h' i xs[i] us[i] (List.getElem?_eq_getElem hi) h2)]
   ·rw[List.getElem?_eq_none (by omega),List.getElem?_eq_none (by omega)]
open PySem.SeqAt in
section
variable {X:Cx}{pins:QE}{σ:L2.St}{H:Hp}{s:Shared}
theorem ziX (I:Inv X pins σ H s){a b:Addr}{xs ys:QQ}{ts us:List Th}{A:Around}(e:H a=some (.tup xs))(e':H b=some (.tup ys))(l:xs.length=ts.length)(l':ys.length=us.length)
  (ih:∀(j:Nat) (x y:V) (t u:Th) (vx vy:Value),xs[j]? =some x->ys[j]? =some y->ts[j]? =some t->us[j]? =some u->RelV x vx->RelV y vy->EqAt A.in1 s vx vy (eqT t u)):
  ∃its jts:List Value,s.heap.IsTuple a its.toArray/\s.heap.IsTuple b jts.toArray/\its.length=ts.length/\jts.length=us.length/\
   ∀j (h1:j < its.toArray.size) (h2:j < jts.toArray.size),EqAt A.in1 s its.toArray[j] jts.toArray[j] (eqT (ts[j]?.getD .non) (us[j]?.getD .non)):=by
 obtain⟨its,r1,T1,_⟩:=I.tuple (SqT.of e);obtain⟨jts,r2,T2,_⟩:=I.tuple (SqT.of e');have n1:=r1.length;have n2:=r2.length;refine⟨its,jts,T1,T2,by omega,by omega,λj h1 h2=>?_⟩;have h1':j < its.length:=by simpa using h1
 have h2':j < jts.length:=by simpa using h2
 obtain⟨vx,ex,rx⟩:=r1.get (List.getElem?_eq_getElem (show j < xs.length by omega));obtain⟨vy,ey,ry⟩:=r2.get (List.getElem?_eq_getElem (show j < ys.length by omega));have g1:ts[j]? =some ts[j]:=List.getElem?_eq_getElem (by omega);have g2:us[j]? =some us[j]:=List.getElem?_eq_getElem (by omega);have q:=ih j _ _ _ _ vx vy (List.getElem?_eq_getElem (show j < xs.length by omega)) (List.getElem?_eq_getElem (show j < ys.length by omega)) g1 g2 rx ry;rw[g1,g2];have z1:its.toArray[j]=vx:=by have:its[j]? =some its[j]:=List.getElem?_eq_getElem h1';rw[this] at ex;simpa using Option.some.inj ex
 have z2:jts.toArray[j]=vy:=by have:jts[j]? =some jts[j]:=List.getElem?_eq_getElem h2';rw[this] at ey;simpa using Option.some.inj ey
 rw[z1,z2];exact q
theorem zn4 (I:Inv X pins σ H s){t:Th}{x:V}(r:Rep H t x):∀{u:Th} {y:V} {vx vy:Value} {A:Around},Rep H u y->RelV x vx->RelV y vy->A.units+dep t+1 < cLine->EqAt A s vx vy (eqT t u):=by
 induction r with
 | non=>
  intro u y vx vy A q rx ry hu;cases (show vx=Value.none from rx);cases q with
  | non=>cases (show vy=Value.none from ry);exact EqAt.same _
  | int i=>obtain⟨k,rfl⟩:=ry;exact EqAt.none_int i k
  | str z=>obtain⟨k,rfl⟩:=ry;exact EqAt.none_str z k
  | tup e l h=>cases (show vy=Value.ref _ from ry);obtain⟨its,_,T,_⟩:=I.tuple (SqT.of e);exact EqAt.none_tuple T (by omega)
 | int a=>
  intro u y vx vy A q rx ry hu;obtain⟨k1,rfl⟩:=rx;cases q with
  | non=>cases (show vy=Value.none from ry);exact EqAt.int_none a k1
  | int i=>obtain⟨k,rfl⟩:=ry;exact EqAt.int_int a k1 i k
  | str z=>obtain⟨k,rfl⟩:=ry;exact EqAt.int_str a k1 z k
  | tup e l h=>cases (show vy=Value.ref _ from ry);obtain⟨its,_,T,_⟩:=I.tuple (SqT.of e);exact EqAt.int_tuple a k1 T (by omega)
 | str a=>
  intro u y vx vy A q rx ry hu;obtain⟨k1,rfl⟩:=rx;cases q with
  | non=>cases (show vy=Value.none from ry);exact EqAt.str_none a k1
  | int i=>obtain⟨k,rfl⟩:=ry;exact EqAt.str_int a k1 i k
  | str z=>obtain⟨k,rfl⟩:=ry;exact EqAt.str_str a k1 z k
  | tup e l h=>cases (show vy=Value.ref _ from ry);obtain⟨its,_,T,_⟩:=I.tuple (SqT.of e);exact EqAt.str_tuple a k1 T (by omega)
 | @tup a xs ts e l h ih=>
  intro u y vx vy A q rx ry hu;cases (show vx=Value.ref a from rx);cases q with
  | non=>cases (show vy=Value.none from ry);obtain⟨its,_,T,_⟩:=I.tuple (SqT.of e);exact EqAt.tuple_none T (by omega)
  | int i=>obtain⟨k,rfl⟩:=ry;obtain⟨its,_,T,_⟩:=I.tuple (SqT.of e);exact EqAt.tuple_int i k T (by omega)
  | str z=>obtain⟨k,rfl⟩:=ry;obtain⟨its,_,T,_⟩:=I.tuple (SqT.of e);exact EqAt.tuple_str z k T (by omega)
  | @tup b ys us e' l' h'=>
   cases (show vy=Value.ref b from ry);by_cases hab:a=b
   ·subst hab;have z:=Rep.inj (Rep.tup e l h) (Rep.tup e' l' h');rw[<-z,zaP];exact EqAt.same _
   ·have hd:dep (.tup ts)=depL ts+1:=rfl;obtain⟨its,jts,T1,T2,n1,n2,q⟩:=ziX (A:=A) I e e' l l' λj x y t u vx vy h1 h2 h3 h4 rx ry=>ih j x t h1 h3 (h' j y u h2 h4) rx ry (by
     have:=zbL h3;show A.units+1+dep t+1 < cLine;omega)
    have R:=RcAt.tuples T1 T2 (show A.units < cLine by omega) q;have e3:((List.range (min its.toArray.size jts.toArray.size)).all (λj=>eqT (ts[j]?.getD .non) (us[j]?.getD .non)) && its.toArray.size==jts.toArray.size)=eqT (.tup ts) (.tup us):=by show _=eqL ts us;rw[ze9,List.size_toArray,List.size_toArray,n1,n2]
    rw[e3] at R;exact EqAt.of_refs hab R
theorem rc_T (I:Inv X pins σ H s){t u:Th}{x y:V}{vx vy:Value}{A:Around}(r:Rep H t x)(q:Rep H u y)(rx:RelV x vx)(ry:RelV y vy)(hu:A.units+dep t+1 < cLine):RcAt A s vx vy (eqT t u)/\RcNeAt A s vx vy (!eqT t u):=by
 cases r with
 | non=>
  cases (show vx=Value.none from rx);cases q with
  | non=>cases (show vy=Value.none from ry);exact⟨RcAt.none_none,RcNeAt.none_none⟩
  | int i=>obtain⟨k,rfl⟩:=ry;exact⟨RcAt.none_int i k,RcNeAt.none_int i k⟩
  | str z=>obtain⟨k,rfl⟩:=ry;exact⟨RcAt.none_str z k,RcNeAt.none_str z k⟩
  | tup e l h=>cases (show vy=Value.ref _ from ry);obtain⟨its,_,T,_⟩:=I.tuple (SqT.of e);exact⟨RcAt.none_tuple T (by omega),RcNeAt.none_tuple T (by omega)⟩
 | int a=>
  obtain⟨k1,rfl⟩:=rx;cases q with
  | non=>cases (show vy=Value.none from ry);exact⟨RcAt.int_none a k1,RcNeAt.int_none a k1⟩
  | int i=>obtain⟨k,rfl⟩:=ry;exact⟨RcAt.int_int a k1 i k,RcNeAt.int_int a k1 i k⟩
  | str z=>obtain⟨k,rfl⟩:=ry;exact⟨RcAt.int_str a k1 z k,RcNeAt.int_str a k1 z k⟩
  | tup e l h=>cases (show vy=Value.ref _ from ry);obtain⟨its,_,T,_⟩:=I.tuple (SqT.of e);exact⟨RcAt.int_tuple a k1 T (by omega),RcNeAt.int_tuple a k1 T (by omega)⟩
 | str a=>
  obtain⟨k1,rfl⟩:=rx;cases q with
  | non=>cases (show vy=Value.none from ry);exact⟨RcAt.str_none a k1,RcNeAt.str_none a k1⟩
  | int i=>obtain⟨k,rfl⟩:=ry;exact⟨RcAt.str_int a k1 i k,RcNeAt.str_int a k1 i k⟩
  | str z=>obtain⟨k,rfl⟩:=ry;exact⟨RcAt.str_str a k1 z k,RcNeAt.str_str a k1 z k⟩
  | tup e l h=>cases (show vy=Value.ref _ from ry);obtain⟨its,_,T,_⟩:=I.tuple (SqT.of e);exact⟨RcAt.str_tuple a k1 T (by omega),RcNeAt.str_tuple a k1 T (by omega)⟩
 | @tup a xs ts e l h=>
  cases (show vx=Value.ref a from rx);cases q with
  | non=>cases (show vy=Value.none from ry);obtain⟨its,_,T,_⟩:=I.tuple (SqT.of e);exact⟨RcAt.tuple_none T (by omega),RcNeAt.tuple_none T (by omega)⟩
  | int i=>obtain⟨k,rfl⟩:=ry;obtain⟨its,_,T,_⟩:=I.tuple (SqT.of e);exact⟨RcAt.tuple_int i k T (by omega),RcNeAt.tuple_int i k T (by omega)⟩
  | str z=>obtain⟨k,rfl⟩:=ry;obtain⟨its,_,T,_⟩:=I.tuple (SqT.of e);exact⟨RcAt.tuple_str z k T (by omega),RcNeAt.tuple_str z k T (by omega)⟩
  | @tup b ys us e' l' h'=>
   cases (show vy=Value.ref b from ry);have hd:dep (.tup ts)=depL ts+1:=rfl;obtain⟨its,jts,T1,T2,n1,n2,q⟩:=ziX (A:=A) I e e' l l' λj x y t u vx vy h1 h2 h3 h4 rx ry=>zn4 I (h j x t h1 h3) (h' j y u h2 h4) rx ry (by
     have:=zbL h3;show A.units+1+dep t+1 < cLine;omega)
   have e3:((List.range (min its.toArray.size jts.toArray.size)).all (λj=>eqT (ts[j]?.getD .non) (us[j]?.getD .non)) && its.toArray.size==jts.toArray.size)=eqT (.tup ts) (.tup us):=by show _=eqL ts us;rw[ze9,List.size_toArray,List.size_toArray,n1,n2]
   have R:=RcAt.tuples T1 T2 (show A.units < cLine by omega) q;have R':=RcNeAt.tuples T1 T2 (show A.units < cLine by omega) q;rw[e3] at R R';exact⟨R,R'⟩
end
section
variable {X:Cx}
theorem zdr {k:Nat}(hr:Room k X.A):OpR X (compareOp .Eq) (λx y H Q=>∃t u,Rep H t x/\Rep H u y/\dep t<=50/\Q (.bl (eqT t u)) H):=by intro pins s σ H x y v w Q I rx ry h;obtain⟨t,u,r1,r2,hd,q⟩:=h;have hu:=hr.units;exact(rc_T I r1 r2 rx ry (by omega)).1 _ _ _ _ ⟨.bl _,H,I,rfl,q⟩
theorem zfQ {k:Nat}(hr:Room k X.A):OpR X (compareOp .NotEq) (λx y H Q=>∃t u,Rep H t x/\Rep H u y/\dep t<=50/\Q (.bl (!eqT t u)) H):=by intro pins s σ H x y v w Q I rx ry h;obtain⟨t,u,r1,r2,hd,q⟩:=h;have hu:=hr.units;exact(rc_T I r1 r2 rx ry (by omega)).2 _ _ _ _ ⟨.bl _,H,I,rfl,q⟩
end
end Pv
namespace L2
open PySem PySem.Spec PyProof.Rows
section
open PySem.SeqAt
open PySem.AutoSeq1 (wpAny_loadPart')
open PySem.MeetsSeq PySem.MeetsSeq2 PySem.MeetsSeq3
end
section
variable {X:Cx}
end
end L2
namespace L2
open PySem PySem.Spec PyProof.Rows
section
open PySem.AutoSeq1 (wpAny_loadPart')
end
section
variable {X:Cx}
end
end L2
namespace Pv
open PySem L2
theorem szL {n:Nat}(h:n<=100000):n<=sizeLine:=Jn h (by rw[sizeLine_eq];decide)
theorem zeq {J:It}{n:Nat}{σ:St}{js:List Nat}{tt:TT}{te:TE}{Q:VK}{H1:Hp}{p:Addr}(Pv:Nat->List V->Hp->Prop)(h0:Pv 0 [] (upd H1 p (.lst [])))
  (hg:∀i acc H,i < n->Pv i acc H->J.go i H) (ht:∀acc H,Pv n acc H->J.stop n H)
  (hs:∀i acc H x H',i < n->Pv i acc H->J.yld i H x H'->tt (some x::frees σ js) H' λok H2=>
   if ok=true then te (some x::frees σ js) H2 λy H3=>H3 p=some (.lst acc)/\acc.length < sizeLine/\∃m',m' < n - i/\(m'=n - (i+1)/\i+1<=n/\Pv (i+1) (acc++ [y]) (upd H3 p (.lst (acc++ [y]))))
   else∃m',m' < n - i/\(m'=n - (i+1)/\i+1<=n/\Pv (i+1) acc H2)) (hd:∀acc H,Pv n acc H->Q (.ref p) H):
  zn0 J p σ js tt te H1 Q:=by
 refine⟨λi m acc H=>m=n - i/\i<=n/\Pv i acc H,⟨n,by simp,Nat.zero_le _,h0⟩,?_⟩;rintro i m acc H ⟨rfl,hi,p⟩;by_cases hlt:i < n
 ·exact .inr ⟨hg i acc H hlt p,λx H' y=>hs i acc H x H' hlt p y⟩
 ·have e:i=n:=by omega
  subst e;exact .inl ⟨ht acc H p,hd acc H p⟩
theorem nxt {i n:Nat}{C:Prop}(h:i < n)(c:C):∃m',m' < n - i/\(m'=n - (i+1)/\i+1<=n/\C):=⟨_,by omega,rfl,h,c⟩
noncomputable def numOf (l:List Nat):Int:=l.foldl (λ(n:Int) (c:Nat)=>n * 128+(c:Int)) 0
theorem zjK (l:List Nat)(c:Nat):numOf (l++ [c])=numOf l * 128+c:=by unfold numOf;rw[List.foldl_append];rfl
noncomputable def chunk (x:Str)(k:Nat):List Nat:=(x.cps.toList.drop (7 * k)).take 7
noncomputable def zii (x:Str)(k:Nat):Str:=⟨(chunk x k).toArray⟩
noncomputable def zbD (x:Str):Nat:=(x.length+6) / 7
noncomputable def ze7 (x:Str):List Int:=(List.range (zbD x)).map λk=>numOf (chunk x k)
mutual
noncomputable def zaZ:Th->List Int
 | .non=>[1]
 | .int n=>[2,(n+10 ^ 30) / 10 ^ 15,(n+10 ^ 30) % 10 ^ 15]
 | .str x=>[3,(x.length:Int)]++ze7 x
 | .tup ts=>[4,(ts.length:Int)]++zaG ts
noncomputable def zaG:List Th->List Int
 | []=>[]
 | t::r=>zaZ t++zaG r
end
theorem zfx:∀(ts:List Th) (t:Th),zaG (ts++ [t])=zaG ts++zaZ t
 | [],t=>by simp[zaG]
 | u::r,t=>by have:=zfx r t;show zaZ u++zaG (r++ [t])=zaZ u++zaG r++zaZ t;rw[this,List.append_assoc]
theorem ziT {ts:List Th}{i:Nat}{t:Th}(h:ts[i]? =some t):zaG (ts.take (i+1))=zaG (ts.take i)++zaZ t:=by rw[List.take_add_one,h];exact zfx _ _
mutual
theorem zeM:∀t:Th,Wf t->(zaZ t).length<=11 * nodes t
 | .non,_=>by show 1<=11 * 1;omega
 | .int n,_=>by show 3<=11 * 1;omega
 | .str x,h=>by
  have h1:x.length<=60:=h.1;show([3,(x.length:Int)]++ze7 x).length<=11 * 1;have h2:(ze7 x).length=zbD x:=by unfold ze7;rw[List.length_map,List.length_range]
  rw[List.length_append,h2];show 2+zbD x<=11;unfold zbD;omega
 | .tup ts,h=>by have:=zdJ ts h.2;show([4,(ts.length:Int)]++zaG ts).length<=11 * (1+zdf ts);rw[List.length_append];show 2+(zaG ts).length<=_;omega
theorem zdJ:∀ts:List Th,WfL ts->(zaG ts).length<=11 * zdf ts
 | [],_=>by show 0<=_;omega
 | t::r,h=>by have h1:=zeM t h.1;have h2:=zdJ r h.2;show(zaZ t++zaG r).length<=11 * (nodes t+zdf r);rw[List.length_append];omega
end
theorem zcZ:∀(ts:List Th) (i:Nat),(zaG (ts.take i)).length<=(zaG ts).length
 | [],i=>by rw[List.take_nil];exact Jb _
 | t::r,0=>by show 0<=_;omega
 | t::r,i+1=>by have:=zcZ r i;show(zaZ t++zaG (r.take i)).length<=(zaZ t++zaG r).length;rw[List.length_append,List.length_append];omega
theorem zlD {x:Str}{k:Nat}(h:k < zbD x):cutS x (some (0+(k:Int) * 7)) (some (0+(k:Int) * 7+7))=zii x k:=by
 unfold zbD at h;have e1:(0+(k:Int) * 7)=((7 * k:Nat):Int):=by omega
 have e2:(0+(k:Int) * 7+7)=((7 * k+7:Nat):Int):=by omega
 unfold cutS zii chunk;rw[e2,e1,HT.sIx_nat,HT.sIx_nat];have hl:x.cps.toList.length=x.length:=Array.length_toList;have a1:min (7 * k) x.length=7 * k:=by omega
 rw[a1];refine congrArg (λl=>(⟨List.toArray l⟩:Str)) ?_;by_cases hb:7 * k+7<=x.length
 ·rw[show min (7 * k+7) x.length - 7 * k=7 by omega]
 ·rw[List.take_of_length_le (by rw[List.length_drop];omega),List.take_of_length_le (by rw[List.length_drop];omega)]
theorem zmj {x:Str}:(((x.length:Int)+7 - 1) / 7).toNat=zbD x:=by unfold zbD;omega
noncomputable def zec (l:List Int):Int:=l.foldl (λh c=>(h * 1234567890123456789+c) % 2305843009213693951) 7
noncomputable def zE (t:Th):Int:=zec (zaZ t)+1
theorem zgh (l:List Int)(c:Int):zec (l++ [c])=(zec l * 1234567890123456789+c) % 2305843009213693951:=by unfold zec;rw[List.foldl_append];rfl
theorem zjN {l:List Int}{i:Nat}{c:Int}(h:l[i]? =some c):zec (l.take (i+1))=(zec (l.take i) * 1234567890123456789+c) % 2305843009213693951:=by rw[List.take_add_one,h];exact zgh _ _
noncomputable abbrev _root_.Jw:=@Int.emod_lt_of_pos
noncomputable abbrev _root_.Jx:=@Int.emod_nonneg
noncomputable abbrev _root_.JD:=@List.eq_nil_or_concat
theorem zfs (l:List Int):0<=zec l/\zec l < 2305843009213693951:=by
 rcases JD l with rfl | ⟨r,c,rfl⟩
 ·exact⟨by decide,by decide⟩
 ·rw[List.concat_eq_append,zgh];exact⟨Jx _ (by decide),Jw _ (by decide)⟩
end Pv
namespace Pv
theorem zgc:∀{ts:List Th} {i:Nat} {t:Th},ts[i]? =some t->nodes t<=zdf ts
 | [],_,_,e=>by simp at e
 | u::r,0,t,e=>by simp at e;subst e;exact JG _ _
 | u::r,i+1,t,e=>Jn (zgc (i:=i) (by simpa using e)) (Nat.le_add_left _ _)
end Pv
namespace Pv
open L2
theorem tt1 {σ:L2.St}{H:Hp}{A B:Hp->Prop}(h:A H):zle σ H λok H2=>if ok=true then A H2 else B H2:=by
 show if true=true then A H else B H
 rw[if_pos rfl];exact h
end Pv
namespace Pv
open PySem L2
noncomputable def zav:Th->Int
 | .non=>0
 | .int _=>1
 | .str _=>2
 | .tup _=>3
mutual
noncomputable def zf:Th->Th->Bool
 | .non,.non=>false
 | .int a,.int b=>decide (a < b)
 | .str a,.str b=>decide (a.cps.toList < b.cps.toList)
 | .tup a,.tup b=>za0 a b
 | t,u=>decide (zav t < zav u)
noncomputable def za0:List Th->List Th->Bool
 | [],[]=>false
 | [],_::_=>true
 | _::_,[]=>false
 | t::r,u::q=>if eqT t u=true then za0 r q else zf t u
end
mutual
noncomputable def rowT:Th->List Int
 | .non=>[0]
 | .int a=>[1,a]
 | .str x=>[2]++x.cps.toList.map (λ(c:Nat)=>(c:Int))++ [-1]
 | .tup ts=>[3]++rowL ts++ [-1]
noncomputable def rowL:List Th->List Int
 | []=>[]
 | t::r=>rowT t++rowL r
end
theorem zh2:∀(p a b:List Int),HT.lexLt (p++a) (p++b)=HT.lexLt a b
 | [],_,_=>rfl
 | x::r,a,b=>by rw[List.cons_append,List.cons_append,HT.lexLt_cons,if_pos rfl];exact zh2 r a b
theorem zbS {x y:Int}(h:x≠y)(a b:List Int):HT.lexLt (x::a) (y::b)=decide (x < y):=by rw[HT.lexLt_cons,if_neg h]
theorem zkZ:∀(x y:List Nat) (a b:List Int),x≠y->HT.lexLt (x.map (λ(c:Nat)=>(c:Int))++ -1::a) (y.map (λ(c:Nat)=>(c:Int))++ -1::b)=decide (x < y)
 | [],[],_,_,h=>Ji rfl h
 | [],d::y,a,b,_=>by show HT.lexLt (-1::a) ((d:Int)::_)=_;rw[zbS (by omega),decide_eq_true (by omega)];exact(decide_eq_true (List.nil_lt_cons d y)).symm
 | c::x,[],a,b,_=>by show HT.lexLt ((c:Int)::_) (-1::b)=_;rw[zbS (by omega),Jd (by omega)];exact(Jd (List.not_lt_nil _)).symm
 | c::x,d::y,a,b,h=>by
  show HT.lexLt ((c:Int)::_) ((d:Int)::_)=_;by_cases e:c=d
  ·subst e;rw[HT.lexLt_cons,if_pos rfl];have:=zkZ x y a b (λz=>h (by rw[z]));refine Eq.trans this ?_;rw[Bool.eq_iff_iff];simp[List.cons_lt_cons_iff]
  ·rw[zbS (by omega)];rw[Bool.eq_iff_iff];simp[List.cons_lt_cons_iff,e]
theorem zeo (t:Th):∃r,rowT t=zav t::r:=by
 cases t with
 | non=>exact⟨[],rfl⟩
 | int a=>exact⟨[a],rfl⟩
 | str x=>exact⟨_,rfl⟩
 | tup ts=>exact⟨_,rfl⟩
theorem zkI (t:Th):0<=zav t:=by
 cases t with
 | non=>exact(by decide:(0:Int)<=0)
 | int _=>exact(by decide:(0:Int)<=1)
 | str _=>exact(by decide:(0:Int)<=2)
 | tup _=>exact(by decide:(0:Int)<=3)
theorem zqq {x y:Str}(h:x≠y):x.cps.toList≠y.cps.toList:=λz=>h (by
 rcases x with ⟨a⟩;rcases y with ⟨b⟩;have:a=b:=Array.toList_inj.mp z;rw[this])
theorem zaD {t u:Th}(h:zav t≠zav u)(a b:List Int):HT.lexLt (rowT t++a) (rowT u++b)=decide (zav t < zav u):=by obtain⟨r,e⟩:=zeo t;obtain⟨q,e'⟩:=zeo u;rw[e,e',List.cons_append,List.cons_append];exact zbS h _ _
mutual
theorem zkM:∀(t u:Th) (a b:List Int),t≠u->HT.lexLt (rowT t++a) (rowT u++b)=zf t u
 | .non,.non,_,_,h=>Ji rfl h
 | .non,.int _,a,b,_=>zaD (t:=.non) (u:=.int _) (by show(0:Int)≠1;decide) a b
 | .non,.str _,a,b,_=>zaD (t:=.non) (u:=.str _) (by show(0:Int)≠2;decide) a b
 | .non,.tup _,a,b,_=>zaD (t:=.non) (u:=.tup _) (by show(0:Int)≠3;decide) a b
 | .int _,.non,a,b,_=>zaD (t:=.int _) (u:=.non) (by show(1:Int)≠0;decide) a b
 | .int x,.int y,a,b,h=>by show HT.lexLt (1::x::a) (1::y::b)=decide (x < y);rw[HT.lexLt_cons,if_pos rfl];exact zbS (λz=>h (by rw[z])) _ _
 | .int _,.str _,a,b,_=>zaD (t:=.int _) (u:=.str _) (by show(1:Int)≠2;decide) a b
 | .int _,.tup _,a,b,_=>zaD (t:=.int _) (u:=.tup _) (by show(1:Int)≠3;decide) a b
 | .str _,.non,a,b,_=>zaD (t:=.str _) (u:=.non) (by show(2:Int)≠0;decide) a b
 | .str _,.int _,a,b,_=>zaD (t:=.str _) (u:=.int _) (by show(2:Int)≠1;decide) a b
 | .str x,.str y,a,b,h=>by
  have e:∀(z:Str) (w:List Int),rowT (.str z)++w=2::(z.cps.toList.map (λ(c:Nat)=>(c:Int))++ -1::w):=λz w=>by show([2]++_++ [-1])++w=_;simp
  rw[e,e,HT.lexLt_cons,if_pos rfl];exact zkZ _ _ a b (zqq λz=>h (by rw[z]))
 | .str _,.tup _,a,b,_=>zaD (t:=.str _) (u:=.tup _) (by show(2:Int)≠3;decide) a b
 | .tup _,.non,a,b,_=>zaD (t:=.tup _) (u:=.non) (by show(3:Int)≠0;decide) a b
 | .tup _,.int _,a,b,_=>zaD (t:=.tup _) (u:=.int _) (by show(3:Int)≠1;decide) a b
 | .tup _,.str _,a,b,_=>zaD (t:=.tup _) (u:=.str _) (by show(3:Int)≠2;decide) a b
 | .tup x,.tup y,a,b,h=>by
  have e:∀(z:List Th) (w:List Int),rowT (.tup z)++w=3::(rowL z++ -1::w):=λz w=>by show([3]++_++ [-1])++w=_;simp
  rw[e,e,HT.lexLt_cons,if_pos rfl];exact zpE x y a b (λz=>h (by rw[z]))
theorem zpE:∀(x y:List Th) (a b:List Int),x≠y->HT.lexLt (rowL x++ -1::a) (rowL y++ -1::b)=za0 x y
 | [],[],_,_,h=>Ji rfl h
 | [],u::q,a,b,_=>by obtain⟨r,e⟩:=zeo u;have:=zkI u;show HT.lexLt (-1::a) ((rowT u++rowL q)++ -1::b)=true;rw[e,List.cons_append,List.cons_append,zbS (by omega),decide_eq_true (by omega)]
 | t::r,[],a,b,_=>by obtain⟨r',e⟩:=zeo t;have:=zkI t;show HT.lexLt ((rowT t++rowL r)++ -1::a) (-1::b)=false;rw[e,List.cons_append,List.cons_append,zbS (by omega),Jd (by omega)]
 | t::r,u::q,a,b,h=>by
  show HT.lexLt ((rowT t++rowL r)++ -1::a) ((rowT u++rowL q)++ -1::b)=if eqT t u=true then za0 r q else zf t u
  rw[List.append_assoc,List.append_assoc];by_cases e:t=u
  ·subst e;rw[zh2,if_pos (zaP t)];exact zpE r q a b (λz=>h (by rw[z]))
  ·rw[if_neg (λz=>e ((za3 t u).mp z))];exact zkM t u _ _ e
end
theorem zer:∀l:List Int,HT.lexLt l l=false
 | []=>rfl
 | x::r=>by rw[HT.lexLt_cons,if_pos rfl];exact zer r
mutual
theorem zT:∀t:Th,zf t t=false
 | .non=>rfl
 | .int a=>by show decide (a < a)=false;exact Jd (by omega)
 | .str x=>by show decide (x.cps.toList < x.cps.toList)=false;exact Jd (List.lt_irrefl _)
 | .tup ts=>zdF ts
theorem zdF:∀ts:List Th,za0 ts ts=false
 | []=>rfl
 | t::r=>by show(if eqT t t=true then za0 r r else zf t t)=false;rw[if_pos (zaP t)];exact zdF r
end
theorem zbp (t u:Th):HT.lexLt (rowT t) (rowT u)=zf t u:=by
 by_cases h:t=u
 ·subst h;rw[zer,zT]
 ·have:=zkM t u [] [] h;rwa[List.append_nil,List.append_nil] at this
theorem zft {t u:Th}(h:zav t≠zav u):zf t u=decide (zav t < zav u):=by have:=zaD h [] [];rwa[List.append_nil,List.append_nil,zbp] at this
noncomputable abbrev _root_.Jo:=@List.drop_eq_getElem_cons
theorem zfr {ts us:List Th}{i:Nat}(h1:i < ts.length)(h2:i < us.length):za0 (ts.drop i) (us.drop i)=if eqT ts[i] us[i]=true then za0 (ts.drop (i+1)) (us.drop (i+1)) else zf ts[i] us[i]:=by
 rw[Jo h1,Jo h2]
 rfl
theorem zgA (ts us:List Th):za0 (ts.drop (min ts.length us.length)) (us.drop (min ts.length us.length))=decide (ts.length < us.length):=by
 by_cases h:ts.length < us.length
 ·rw[Nat.min_eq_left (by omega),List.drop_length,Jo h,decide_eq_true h]
  rfl
 ·rw[Nat.min_eq_right (by omega),List.drop_length,Jd h];cases e:ts.drop us.length <;> rfl
end Pv
namespace Pv
open PySem L2
noncomputable abbrev zb9:Stmt:=top 55
theorem zgE:zr ["script","k"] ["script","k"] (zh zb9):=L2.fsc (by decide+kernel)
noncomputable abbrev zeV:Stmt:=top 56
theorem zdU:zr ["cell","k","one"] ["cell","k"] (zh zeV):=L2.fsc (by decide+kernel)
noncomputable abbrev zde:Stmt:=top 57
theorem zbg:zr ["cell","way","least","xs","k","wide"] ["cell","way","least"] (zh zde):=L2.fsc (by decide+kernel)
noncomputable abbrev zdK:Stmt:=top 58
theorem zaQ:zr ["number","many","signs","text","k"] ["number","many"] (zh zdK):=L2.fsc (by decide+kernel)
theorem szl {n:Nat}(h:n<=1000):n<=sizeLine:=Nat.le_of_lt (zlu h)
def zm7 (K:QA):Sp:=λvs H Q _=>∃(a:Addr) (ns:List Int) (k:Int),vs=[.ref a,.int k]/\SqL K H a (ns.map V.int)/\0<=k/\∀c:Int,Q (.int c) H
def zn8:Sp:=λvs H Q _=>∃(c k:Int),vs=[.int c,.int k]/\0<=k/\k<=1000/\∀r:Int,0<=r->r < 2147483648->Q (.int r) H
def Below (xs ns:List Int):Prop:=xs.length=ns.length/\∀(i:Nat) (a b:Int),xs[i]? =some a->ns[i]? =some b->0<=a/\a < b
def zij:Sp:=λvs H Q _=>∃(c m:Int) (p:Addr) (ns:List Int),vs=[.int c,.int m,.ref p]/\H p=some (.lst (ns.map V.int))/\ns.length<=20/\(∀n∈ns,0 < n/\n < 10 ^ 40)/\
 ∀(r:Addr) (xs:List Int) (H':Hp),Same H H'->H' r=some (.lst (xs.map V.int))->Below xs ns->Q (.ref r) H'
def zhZ:Sp:=λvs H Q _=>∃(n m:Int),vs=[.int n,.int m]/\0<=m/\m<=60/\∀x:Str,znP x->Q (.str x) H
noncomputable instance decSign (c:Nat):Decidable (Sign c):=inferInstanceAs (Decidable (32<=c/\c<=126/\c≠37))
noncomputable def SGs:Str:=Str.ofString " !\"#$&'()*+,-./0123456789:;<=>?@ABCDEFGHIJKLMNOPQRSTUVWXYZ[\\]^_`" ++Str.ofString "abcdefghijklmnopqrstuvwxyz{|}~"
theorem zpY:SGs.cps.toList.length=94:=by decide+kernel
theorem zqA:∀c∈SGs.cps.toList,Sign c:=by decide+kernel
noncomputable abbrev _root_.Jp:=@List.getElem_mem
theorem zrq {r:Int}(h0:0<=r)(h1:r < 94):∃c,atI SGs.cps.toList r=some c/\Sign c:=by
 have hl:r.toNat < SGs.cps.toList.length:=by rw[zpY];omega
 have er:r=((r.toNat:Nat):Int):=by omega
 have q:atI SGs.cps.toList ((r.toNat:Nat):Int)=some SGs.cps.toList[r.toNat]:=zaT (List.getElem?_eq_getElem hl);rw[<-er] at q;exact⟨_,q,zqA _ (Jp hl)⟩
theorem zos (x y:Str):(x++y).cps.toList=x.cps.toList++y.cps.toList:=by show(x.cps++y.cps).toList=_;simp
theorem ziS (x y:Str):(x++y).length=x.length+y.length:=by show(x.cps++y.cps).size=x.cps.size+y.cps.size;simp
theorem zk {H H1:Hp}{p:Addr}{o:HO}(sm:Same H H1)(h:H1 p=none):Same H (upd H1 p o):=λb u q=>by have q':=sm b u q;rw[zl (zo q' h)];exact q'
theorem zbN {H H1:Hp}{p:Addr}{o:HO}(sm:Same H H1)(h:H p=none):Same H (upd H1 p o):=λb u q=>by rw[zl (zo q h)];exact sm b u q
section
variable {P:Program}{w:World}{K:QA}{mg:QB}{base:Heap}
noncomputable abbrev _root_.Jt:=@of_decide_eq_true
theorem zjG (D:Dfn K mg "_law_cell_at" zb9 ["script","k"]) (zP:mg "len" =none):Fn P w K mg base "_law_cell_at" 1 ["script","k"] (zm7 K):=by
 refine D.ok (k:=0) zgE (λvs H Q E h=>?_) (λf cdv A outer s H vs Q E hr h=>?_)
 ·obtain⟨a,ns,k,rfl,_⟩:=h;rfl
 obtain⟨a,ns,k,rfl,hS,h0,q⟩:=h;refine⟨_,(zb (zL (zB zcY (pv 1) (zH (zG) (by rfl) zP (by rfl) (za (pv 0) zc)) (zA _))
 (zd (zm (zt zN (pv 0) (pv 1) (λ_ _=>rfl))))
 zu)
 (zd (zm zg))),?_⟩
 refine⟨_,rfl,_,rfl,a,_,rfl,.inl hS,_,_,rfl,rfl,_,rfl,?_⟩;refine ifB (λc=>?_) (λc=>?_)
 ·have c':k < (((ns.map V.int).length:Nat):Int):=Jt c;rw[List.length_map] at c';have hk:k.toNat < ns.length:=by omega
  have ek:k=((k.toNat:Nat):Int):=by omega
  have q1:atI (ns.map V.int) ((k.toNat:Nat):Int)=some (.int ns[k.toNat]):=zaT (by rw[List.getElem?_map,List.getElem?_eq_getElem hk] <;> rfl);rw[<-ek] at q1;exact⟨_,rfl,_,rfl,a,_,_,_,rfl,rfl,hS,q1,q _⟩
 ·exact q _
theorem zp8 (D:Dfn K mg "_law_mix" zeV ["cell","k"]):Fn P w K mg base "_law_mix" 1 ["cell","k"] zn8:=by
 refine D.ok (k:=0) zdU (λvs H Q E h=>?_) (λf cdv A outer s H vs Q E hr h=>?_)
 ·obtain⟨c,k,rfl,_⟩:=h;rfl
 obtain⟨c,k,rfl,k0,k1,q⟩:=h;refine⟨_,(zb (zq (i:=2) zdU.nd rfl (Or.inl rfl) (zC zaO (zC zar (pv 0) (zC zcc zg (zC zar (pv 1) zg))) zg))
 (zb (zq (i:=2) zdU.nd rfl (Or.inl rfl) (zC zaO (zC zcc (pv 2) (pv 2)) zg))
 (zd (zm (zC zbO (zC zaO (zC zcc (pv 2) (zC zar (zC zar (pv 2) zg) (zC zcc zg (pv 1)))) zg) zg))))),?_⟩
 have b0:0<=(c+130363 * (k+1)) % 2147483629:=Jx _ (by decide);have b1:(c+130363 * (k+1)) % 2147483629 < 2147483629:=Jw _ (by decide);refine⟨_,rfl,_,rfl,_,_,rfl,rfl,_,_,rfl,rfl,.inl ⟨by decide,by decide⟩,_,_,rfl,rfl,_,_,rfl,rfl,(show(0:Int) < 2147483629 by decide),?_⟩;generalize hd:(c+130363 * (k+1)) % 2147483629=d at b0 b1;show tSeq _ _ _ (List.set _ _ (some (V.int ((c+130363 * (k+1)) % 2147483629)))) _;rw[hd];have g0:0<=d * d % 2147483587:=Jx _ (by decide);have g1:d * d % 2147483587 < 2147483587:=Jw _ (by decide);refine⟨_,rfl,_,rfl,_,_,rfl,rfl,.inl ⟨by omega,by omega⟩,_,_,rfl,rfl,(show(0:Int) < 2147483587 by decide),?_⟩;generalize hf:d * d % 2147483587=g at g0 g1;show zfp 2 (V.int (d * d % 2147483587)) _ _ _;rw[hf];have z0:0<=g * (g+6007+3 * k) % 2147483579:=Jx _ (by decide);have z1:g * (g+6007+3 * k) % 2147483579 < 2147483579:=Jw _ (by decide);refine⟨_,rfl,_,rfl,_,_,rfl,rfl,_,rfl,_,_,rfl,rfl,.inl ⟨by decide,by decide⟩,_,_,rfl,rfl,_,_,rfl,rfl,.inl ⟨by omega,by omega⟩,_,_,rfl,rfl,(show(0:Int) < 2147483579 by decide),_,_,rfl,rfl,⟨by decide,by decide+kernel⟩,q _ ?_ ?_⟩
 ·exact Int.ediv_nonneg z0 (by decide)
 ·have:g * (g+6007+3 * k) % 2147483579 / 16<=g * (g+6007+3 * k) % 2147483579:=Int.ediv_le_self _ z0;exact Int.lt_of_le_of_lt this (Int.lt_trans z1 (by decide))
theorem zga {xs ns:List Int}{i:Nat}{a b:Int}(h:Below xs (ns.take i))(e:ns[i]? =some b)(h0:0<=a)(h1:a < b):Below (xs++ [a]) (ns.take (i+1)):=by
 have hi:i < ns.length:=(List.getElem?_eq_some_iff.mp e).1;have hl:xs.length=i:=by rw[h.1,List.length_take];omega
 have et:ns.take (i+1)=ns.take i++ [b]:=by rw[List.take_add_one,e];rfl
 refine⟨by rw[et,List.length_append,List.length_append,h.1];rfl,λj u v hu hv=>?_⟩;by_cases hj:j < i
 ·rw[List.getElem?_append_left (by omega)] at hu;rw[et,List.getElem?_append_left (by rw[List.length_take];omega)] at hv;exact h.2 j u v hu hv
 ·have hj2:j < xs.length+1:=by have:=(List.getElem?_eq_some_iff.mp hu).1;rw[List.length_append] at this;exact this
  have ej:j=i:=by omega
  subst ej;rw[List.getElem?_append_right (by omega),hl,Nat.sub_self] at hu;rw[List.getElem?_take_of_lt (by omega),e] at hv;cases hu;cases hv;exact⟨h0,h1⟩
theorem zm3 (D:Dfn K mg "_law_parts" zde ["cell","way","least"]) (za9:Fn P w K mg base "_law_mix" 1 ["cell","k"] zn8) (zap:mg "range" =none) (zP:mg "len" =none):Fn P w K mg base "_law_parts" 2 ["cell","way","least"] zij:=by
 refine D.ok (k:=1) zbg (λvs H Q E h=>?_) (λf cdv A outer s H vs Q E hr h=>?_)
 ·obtain⟨c,m,p,ns,rfl,_⟩:=h;rfl
 obtain⟨c,m,p,ns,rfl,ep,l20,hn,q⟩:=h;refine⟨_,(zb (zq (i:=3) zbg.nd rfl (Or.inl rfl) (zag zc))
 (zb (zaH PassesOwn.never rfl (zdo rfl zap (za (zH (zG) (by rfl) zP (by rfl) (za (pv 2) zc)) zc)) (zah (i:=4) zbg.nd rfl (Or.inl rfl))
 (zd (zL (zB zcu (pv 1) zg (zA _))
 (zb (zaU (zet PySem.F.plainAttrs_list PySem.F.slot_list_append PySem.F.type_list_append zaX (pv 3) (za (zC zaO (pv 0) (zt zN (pv 2) (pv 4) (λ_ _=>rfl))) zc)))
 (zd (zq (i:=0) zbg.nd rfl (Or.inl rfl) (zC zbO (pv 0) (zt zN (pv 2) (pv 4) (λ_ _=>rfl))))))
 (zb (zq (i:=5) zbg.nd rfl (Or.inl rfl) (zC zar (zC zar (zC zcc (zF za9 hr (by omega) (by rfl) (za (pv 0) (za (pv 4) zc))) (zC zca zg zg)) (zC zcc (zF za9 hr (by omega) (by rfl) (za (pv 0) (za (zC zar (pv 4) zg) zc))) (zC zca zg zg))) (zF za9 hr (by omega) (by rfl) (za (pv 0) (za (zC zar (pv 4) zg) zc)))))
 (zd (zaU (zet PySem.F.plainAttrs_list PySem.F.slot_list_append PySem.F.type_list_append zaX (pv 3) (za (zC zaO (pv 5) (zt zN (pv 2) (pv 4) (λ_ _=>rfl))) zc))))))))
 (zd (zm (pv 3))))),?_⟩
 refine⟨szl (show 0<=1000 by decide),λr hr0=>?_⟩;have sm0:Same H (upd H r (.lst [])):=zk (Same.refl H) hr0;refine⟨_,rfl,p,_,rfl,.inl (SqL.of (sm0 _ _ ep)),?_⟩;rw[List.length_map];refine⟨_,rfl,by omega,by omega,?_⟩;rw[Int.toNat_natCast];refine zcw (n:=ns.length) (λi σ H'=>∃(c':Int) (xs:List Int) (k4 k5:Option V),σ=[some (.int c'),some (.int m),some (.ref p),some (.ref r),k4,k5]/\Same H H'/\H' r=some (.lst (xs.map V.int))/\Below xs (ns.take i)) ⟨c,[],_,_,rfl,sm0,zj,rfl,λi a b h=>by simp at h⟩ ?_ ?_
 ·rintro i σ H1 hi ⟨c',xs,k4,k5,rfl,sm,er,hb⟩;rw[Int.zero_add];have en:ns[i]? =some ns[i]:=List.getElem?_eq_getElem hi;have hni:=hn _ (Jp hi);have hxl:xs.length=i:=by rw[hb.1,List.length_take];omega
  have nr:p≠r:=zo ep hr0;have ei:atI (ns.map V.int) ((i:Nat):Int)=some (.int ns[i]):=zaT (by rw[List.getElem?_map,en];rfl);have push:∀{H2:Hp} {u:Int},Same H H2->(xs.map V.int)++ [V.int u]=(xs++ [u]).map V.int:=λ_=>by rw[List.map_append];rfl
  refine⟨_,rfl,rfl,_,rfl,?_⟩;refine ifB (λcc=>?_) (λcc=>?_)
  ·refine⟨_,rfl,.inl ⟨rfl,_,SqL.of er⟩,_,rfl,_,rfl,_,rfl,p,_,_,_,rfl,rfl,SqL.of (sm _ _ ep),ei,_,_,rfl,rfl,hni.1,r,_,_,rfl,rfl,er,Jg (show(xs.map V.int).length < 1000 by rw[List.length_map];omega) (szl (Jb _)),?_⟩;have sm1:Same H (upd H1 r (.lst ((xs.map V.int)++ [V.int (c' % ns[i])]))):=zbN sm hr0;refine⟨_,rfl,_,rfl,_,rfl,p,_,_,_,rfl,rfl,SqL.of (sm1 _ _ ep),ei,_,_,rfl,rfl,⟨hni.1,Int.lt_trans hni.2 (by decide+kernel)⟩,?_⟩;exact⟨_,xs++ [c' % ns[i]],_,_,rfl,sm1,by rw[zj,List.map_append];rfl,zga hb en (Jx _ (by omega)) (Jw _ hni.1)⟩
  ·refine⟨_,rfl,_,rfl,c',_,rfl,by omega,by omega,λr1 a0 a1=>?_⟩;refine⟨_,_,rfl,rfl,⟨by decide,by decide,by decide⟩,_,_,rfl,rfl,.inl ⟨by omega,by omega⟩,?_⟩;refine⟨_,rfl,_,rfl,_,_,rfl,rfl,c',_,rfl,by omega,by omega,λr2 b0 b1=>?_⟩;refine⟨_,_,rfl,rfl,⟨by decide,by decide,by decide⟩,_,_,rfl,rfl,.inl ⟨by omega,by omega⟩,_,_,rfl,rfl,?_⟩;refine⟨_,rfl,_,rfl,_,_,rfl,rfl,c',_,rfl,by omega,by omega,λr3 d0 d1=>?_⟩;refine⟨_,_,rfl,rfl,?_⟩;refine⟨_,rfl,.inl ⟨rfl,_,SqL.of er⟩,_,rfl,_,rfl,_,rfl,p,_,_,_,rfl,rfl,SqL.of (sm _ _ ep),ei,_,_,rfl,rfl,hni.1,r,_,_,rfl,rfl,er,Jg (show(xs.map V.int).length < 1000 by rw[List.length_map];omega) (szl (Jb _)),?_⟩;exact⟨_,xs++ [_],_,_,rfl,zbN sm hr0,by rw[zj,List.map_append];rfl,zga hb en (Jx _ (by omega)) (Jw _ hni.1)⟩
 ·rintro σ H1 ⟨c',xs,k4,k5,rfl,sm,er,hb⟩;rw[List.take_length] at hb;exact⟨_,rfl,q r xs H1 sm er hb⟩
theorem zmX (D:Dfn K mg "_law_text" zdK ["number","many"]) (zap:mg "range" =none):Fn P w K mg base "_law_text" 1 ["number","many"] zhZ:=by
 refine D.ok (k:=0) zaQ (λvs H Q E h=>?_) (λf cdv A outer s H vs Q E hr h=>?_)
 ·obtain⟨n,m,rfl,_⟩:=h;rfl
 obtain⟨n,m,rfl,m0,m1,q⟩:=h;refine⟨_,(zb (zq (i:=2) zaQ.nd rfl (Or.inl rfl) zdH)
 (zb (zq (i:=2) zaQ.nd rfl (Or.inl rfl) (zC zf6 (pv 2) zdH))
 (zb (zq (i:=3) zaQ.nd rfl (Or.inl rfl) zdH)
 (zb (zaH PassesOwn.never rfl (zdo rfl zap (za (pv 1) zc)) (zah (i:=4) zaQ.nd rfl (Or.inl rfl))
 (zb (zq (i:=3) zaQ.nd rfl (Or.inl rfl) (zC zf6 (pv 3) (zt zqJ (pv 2) (zC zaO (pv 0) zg) (λ_ _=>rfl))))
 (zd (zq (i:=0) zaQ.nd rfl (Or.inl rfl) (zC zbO (pv 0) zg)))))
 (zd (zm (pv 3))))))),?_⟩
 refine⟨_,rfl,_,_,rfl,rfl,szl (by decide+kernel),?_⟩;refine⟨_,rfl,_,rfl,by omega,by omega,?_⟩;refine zcw (n:=m.toNat) (λi σ H'=>H'=H/\∃(n':Int) (x:Str) (kk:Option V),σ=[some (.int n'),some (.int m),some (.str SGs),some (.str x),kk]/\x.length=i/\(∀c∈x.cps.toList,Sign c)) ⟨rfl,n,Str.ofString "",_,rfl,by decide+kernel,by decide+kernel⟩ ?_ ?_
 ·rintro i σ H' hi ⟨rfl,n',x,kk,rfl,hl,hs⟩;obtain⟨c,ec,hc⟩:=zrq (Jx n' (by decide)) (Jw n' (show(0:Int) < 94 by decide));refine⟨_,rfl,_,rfl,_,rfl,_,_,rfl,rfl,(show(0:Int) < 94 by decide),SGs,_,c,rfl,rfl,szl (by decide+kernel),ec,?_⟩;refine⟨_,_,rfl,rfl,szl (show x.length+1<=1000 by omega),?_⟩;refine⟨_,rfl,_,_,rfl,rfl,⟨by decide,by decide+kernel⟩,?_⟩;refine⟨rfl,_,_,_,rfl,by rw[ziS,hl];rfl,λd hd=>?_⟩;rw[zos] at hd;rcases Jj.mp hd with hd | hd
  ·exact hs d hd
  ·have e:d=c:=by simpa using hd
   rw[e];exact hc
 ·rintro σ H' ⟨rfl,n',x,kk,rfl,hl,hs⟩;exact⟨_,rfl,q x ⟨by omega,hs⟩⟩
end
end Pv
namespace Pv
open PySem L2
noncomputable abbrev zn1:Stmt:=top 6
noncomputable abbrev zj6:Stmt:=top 7
noncomputable abbrev zdP:Stmt:=top 8
theorem zhT:zr ["thing","folded","code"] ["thing"] (zh zn1):=L2.fsc (by decide+kernel)
theorem zeB:zr ["thing","raised","sevens","row","part"] ["thing"] (zh zj6):=L2.fsc (by decide+kernel)
theorem zbY:zr ["signs","number","sign"] ["signs"] (zh zdP):=L2.fsc (by decide+kernel)
def zk2:Sp:=λvs H Q _=>∃x:Str,vs=[.str x]/\Q (.int (numOf x.cps.toList)) H
def zkO (n:Nat):Sp:=λvs H Q _=>∃(t:Th) (v:V),vs=[v]/\Rep H t v/\Wf t/\dep t < n/\nodes t<=100/\∀(r:Addr) (H':Hp),Same H H'->H' r=some (.lst ((zaZ t).map V.int))->Q (.ref r) H'
def zeR:Sp:=λvs H Q _=>∃(t:Th) (v:V),vs=[v]/\Rep H t v/\Wf t/\dep t < 10/\nodes t<=100/\∀(H':Hp),Same H H'->Q (.int (zE t)) H'
section
variable {P:Program}{w:World}{K:QA}{mg:QB}{base:Heap}
theorem zhO (D:Dfn K mg "number_of" zdP ["signs"]) (m_ord:mg "ord" =none):Fn P w K mg base "number_of" 1 ["signs"] zk2:=by
 refine D.ok (k:=0) zbY (λvs H Q E h=>?_) (λf cdv A outer s H vs Q E hr h=>?_)
 ·obtain⟨x,rfl,_⟩:=h;rfl
 obtain⟨x,rfl,q⟩:=h;refine⟨_,(zb (zq (i:=1) zbY.nd rfl (Or.inl rfl) zg)
 (zb (zaH PassesOwn.never rfl (zqE (pv 0)) (zah (i:=2) zbY.nd rfl (Or.inl rfl))
 (zd (zq (i:=1) zbY.nd rfl (Or.inl rfl) (zC zar (zC zcc (pv 1) zg) (zH (zm0) (by rfl) m_ord (by rfl) (za (pv 2) zc))))))
 (zd (zm (pv 1))))),?_⟩
 refine⟨_,rfl,x,rfl,?_⟩;refine zoM (z:=x) (λi σ H'=>H'=H/\∃kk,σ=[some (.str x),some (.int (numOf (x.cps.toList.take i))),kk]) ⟨rfl,_,rfl⟩ ?_ ?_
 ·rintro i c σ H' hc ⟨rfl,kk,rfl⟩;refine⟨_,rfl,_,_,rfl,rfl,.inr ⟨by decide,by decide⟩,_,rfl,_,rfl,rfl,_,_,rfl,rfl,rfl,some (.str ⟨#[c]⟩),?_⟩;have e:x.cps.toList.take (i+1)=x.cps.toList.take i++ [c]:=by rw[List.take_add_one,Array.getElem?_toList,hc];rfl
  rw[e,zjK]
  rfl
 ·rintro σ H' ⟨rfl,kk,rfl⟩;refine⟨_,rfl,?_⟩;have e:x.cps.toList.take x.cps.size=x.cps.toList:=List.take_of_length_le (by simp);rw[e];exact q
theorem zi5 (D:Dfn K mg "codes" zj6 ["thing"]) (zfz:Fn P w K mg base "number_of" 1 ["signs"] zk2) (zv:mg "isinstance" =none) (zba:mg "int" =none) (zb7:mg "str" =none) (zap:mg "range" =none) (zP:mg "len" =none):
  ∀n:Nat,Fn P w K mg base "codes" (n+2) ["thing"] (zkO n)
 | 0=>D.never λvs H Q E h=>by obtain⟨t,v,_,_,_,h1,_⟩:=h;omega
 | n+1=>by
  have zit:=zi5 D zfz zv zba zb7 zap zP n;refine D.ok (k:=n+2) zeB (λvs H Q E h=>?_) (λf cdv A outer s H vs Q E hr h=>?_)
  ·obtain⟨t,v,rfl,_⟩:=h;rfl
  obtain⟨t,v,rfl,hrep,hwf,hdep,hnod,q⟩:=h;have hlen:=zeM t hwf;refine⟨_,(zb (zL (zB zcI (pv 0) zaC (zA _))
 (zd (zm (zag (za zg zc))))
 zu)
 (zb (zL (zai (zH (zan) (by rfl) zv (by rfl) (za (pv 0) (za (zaS (v:=.ty "int") (by rfl) zba (by rfl) rfl) zc))))
 (zb (zq (i:=1) zeB.nd rfl (Or.inl rfl) (zC zar (pv 0) (zC zca zg zg)))
 (zd (zm (zag (za zg (za (zC zbO (pv 1) (zC zca zg zg)) (za (zC zaO (pv 1) (zC zca zg zg)) zc)))))))
 zu)
 (zb (zL (zai (zH (zan) (by rfl) zv (by rfl) (za (pv 0) (za (zaS (v:=.ty "str") (by rfl) zb7 (by rfl) rfl) zc))))
 (zb (ziK (i:=2) (zaj.one (y:= "thing") (j:=0) (c:=s.heap.objs.size+1) (by rfl) (by rfl) (by decide+kernel) (by decide+kernel) (by rfl) (by decide+kernel) (by rfl) (by decide+kernel) (by rfl) (by first | exact Or.inl rfl | exact Or.inr rfl) (by first | exact Or.inl rfl | exact Or.inr rfl)) rfl (zl3 rfl zap (za zg (za (zH (zbn.or zG zcS) (by rfl) zP (by rfl) (za (pv 0) zc)) (za zg zc)))) (λ_ _ _=>zfU) (λ_ _ _=>(zaM zqo (pv 1) (zaK (pv 0)) (zaK (zC zar (pv 0) zg)))) zeB.nd rfl (Or.inl rfl) (by rfl))
 (zd (zm (zC zbJ (zag (za zg (za (zH (zbn.or zG zcS) (by rfl) zP (by rfl) (za (pv 0) zc)) zc))) (zgt (zaj.zero (by rfl) (by decide+kernel) (by decide+kernel) (by decide+kernel) (by rfl)) rfl (zbG (pv 2)) (λ_ _ _=>zfU) (λ_ _ _=>(zF zfz hr (by omega) (by rfl) (za (pv 0) zc))))))))
 zu)
 (zb (zq (i:=3) zeB.nd rfl (Or.inl rfl) (zag (za zg (za (zH (zbn.or zG zcS) (by rfl) zP (by rfl) (za (pv 0) zc)) zc))))
 (zb (zaH PassesOwn.never rfl (znT (pv 0)) (zah (i:=4) zeB.nd rfl (Or.inl rfl))
 (zd (zaU (zet PySem.F.plainAttrs_list PySem.F.slot_list_extend PySem.F.type_list_extend zlO (pv 3) (za (zF zit hr (by omega) (by rfl) (za (pv 4) zc)) zc)))))
 (zd (zm (pv 3)))))))),?_⟩
  refine⟨_,rfl,rfl,_,rfl,?_⟩;cases hrep with
  | non=>refine ifT (by decide) ?_;refine⟨szl (show 1<=1000 by decide),λp hp=>?_⟩;exact q p _ (Frm.new hp).same zj
  | int i=>refine ifF (by rfl) ?_;refine⟨_,rfl,_,_,_,_,rfl,.int i,rfl,_,rfl,?_⟩;refine ifT rfl ?_;refine⟨_,rfl,_,_,rfl,rfl,⟨by decide,by decide,by decide⟩,_,_,rfl,rfl,?_⟩;refine⟨_,rfl,_,_,rfl,rfl,⟨by decide,by decide,by decide⟩,_,_,rfl,rfl,⟨by decide+kernel,by decide+kernel⟩,_,rfl,_,_,rfl,rfl,⟨by decide,by decide,by decide⟩,_,_,rfl,rfl,(show(0:Int) < 10 ^ (15:Int).toNat by decide+kernel),szl (show 3<=1000 by decide),λp hp=>?_⟩;exact q p _ (Frm.new hp).same zj
  | str x=>
   have hx:x.length<=60:=hwf.1;refine ifF (by rfl) ?_;refine⟨_,rfl,_,_,_,_,rfl,.str x,rfl,_,rfl,?_⟩;refine ifF rfl ?_;refine⟨_,rfl,_,_,_,_,rfl,.str x,rfl,_,rfl,?_⟩;refine ifT rfl ?_;refine⟨_,rfl,.inr ⟨x,rfl,szl (by omega),?_⟩⟩;refine⟨_,_,rfl,by omega,by omega,by decide,by decide,λp hp=>?_⟩;rw[zmj];refine zeq (J:=Itrs 0 7 (zbD x)) (n:=zbD x) (λi acc H'=>acc=(List.range i).map (λk=>V.str (zii x k))/\H'=upd H p (.lst acc)) ⟨rfl,rfl⟩ (by exact λi acc H' hi _=>hi) (by exact λacc H' _=>Jb _) ?_ ?_
   ·rintro i acc H' y H'' hi ⟨ha,rfl⟩ ⟨e1,e2⟩;subst e1 e2;refine tt1 ?_;refine⟨_,rfl,_,rfl,_,rfl,_,rfl,_,_,rfl,rfl,_,rfl,x,rfl,szl (by omega),?_⟩;have hal:acc.length=i:=by rw[ha,List.length_map,List.length_range]
    refine⟨zj,Jg (show acc.length < 1000 by unfold zbD at hi;omega) (szl (Jb _)),nxt hi ⟨?_,zkx⟩⟩;rw[List.range_succ,List.map_append,ha,zlD hi]
    rfl
   ·rintro acc H' ⟨ha,rfl⟩;refine⟨_,rfl,.inr ⟨x,rfl,szl (by omega),szl (show 2<=1000 by decide),λp2 hp2=>?_⟩⟩;have np:p≠p2:=λz=>by rw[<-z,zj] at hp2;cases hp2
    have ep:upd (upd H p (.lst acc)) p2 (.lst [.int 3,.int (x.length:Nat)]) p=some (.lst acc):=by rw[zl np];exact zj
    have hal:acc.length=zbD x:=by rw[ha,List.length_map,List.length_range]
    refine⟨_,rfl,p,rfl,⟨_,SqL.of ep⟩,λp3 hp3=>?_⟩;have np3:p≠p3:=(zo ep hp3);have np23:p2≠p3:=(zo zj hp3);refine zeq (n:=zbD x) (λi acc' H'=>acc'=(List.range i).map (λk=>V.int (numOf (chunk x k)))/\H'=upd (upd (upd H p (.lst acc)) p2 (.lst [.int 3,.int (x.length:Nat)])) p3 (.lst acc')) ⟨rfl,rfl⟩ ?_ ?_ ?_ ?_
    ·rintro i acc' H' hi ⟨_,rfl⟩;exact⟨acc,acc[i],SqL.of (by rw[zl np3];exact ep),by rw[List.getElem?_eq_getElem]⟩
    ·rintro acc' H' ⟨_,rfl⟩;exact⟨acc,SqL.of (by rw[zl np3];exact ep),by omega⟩
    ·rintro i acc' H' y H'' hi ⟨ha',rfl⟩ ⟨e1,e2⟩;subst e1;have ey:=e2 acc (SqL.of (by rw[zl np3];exact ep));have ey2:y=V.str (zii x i):=by rw[ha,List.getElem?_map,List.getElem?_range hi] at ey;exact(Option.some.inj ey).symm
     subst ey2;refine tt1 ?_;refine⟨_,rfl,_,rfl,zj,?_,nxt hi ⟨?_,zkx⟩⟩
     ·have:acc'.length=i:=by rw[ha',List.length_map,List.length_range]
      exact Jg (show acc'.length < 1000 by unfold zbD at hi;omega) (szl (Jb _))
     ·rw[List.range_succ,List.map_append,ha']
      rfl
    ·rintro acc' H' ⟨ha',rfl⟩;have hal':acc'.length=zbD x:=by rw[ha',List.length_map,List.length_range]
     refine⟨p2,p3,[.int 3,.int (x.length:Nat)],acc',rfl,rfl,by rw[zl np23];exact zj,zj,szl (show 2+acc'.length<=1000 by unfold zbD at hal';omega),λr hr'=>?_⟩
     refine q r _ (λb o hb=>?_) ?_
     ·have n1:=zo hb hp;have e1:upd H p (.lst acc) b=some o:=by rw[zl n1];exact hb
      have n2:=zo e1 hp2;have e2:upd (upd H p (.lst acc)) p2 (.lst [.int 3,.int (x.length:Nat)]) b=some o:=by rw[zl n2];exact e1
      have n3:=zo e2 hp3;have e3:upd (upd (upd H p (.lst acc)) p2 (.lst [.int 3,.int (x.length:Nat)])) p3 (.lst acc') b=some o:=by rw[zl n3];exact e2
      rw[zl (zo e3 hr')];exact e3
     ·rw[zj,ha'];show some (HO.lst ([V.int 3,V.int (x.length:Nat)]++_))=some (HO.lst (([3,(x.length:Int)]++ze7 x).map V.int));rw[List.map_append];unfold ze7;rw[List.map_map]
      rfl
  | @tup a xs ts e hl hrs=>
   have hw:ts.length<=40:=hwf.1;refine ifF (by rfl) ?_;refine⟨_,rfl,_,_,_,_,rfl,.tup e,rfl,_,rfl,?_⟩;refine ifF rfl ?_;refine⟨_,rfl,_,_,_,_,rfl,.tup e,rfl,_,rfl,?_⟩;refine ifF rfl ?_;refine⟨_,rfl,.inl ⟨a,_,rfl,.inr (SqT.of e),szl (show 2<=1000 by decide),λrw hrw=>?_⟩⟩;have nra:a≠rw:=zo e hrw;have keepT:∀{H':Hp},Same H H'->Tups H H':=λz=>Same.tups z;refine⟨_,rfl,a,rfl,⟨_,SqT.of (by rw[zl nra];exact e)⟩,?_⟩;refine zlb (xs:=xs) (λi σ H'=>∃kk,σ=[some (.ref a),none,none,some (.ref rw),kk]/\Same H H'/\H' rw=some (.lst (([4,(ts.length:Int)]++zaG (ts.take i)).map V.int))) ⟨_,rfl,(Frm.new hrw).same,?_⟩ ?_ ?_ ?_
   ·rw[zj,hl]
    rfl
   ·rintro i σ H' hi ⟨kk,rfl,sm,er⟩;exact SqT.of (sm _ _ e)
   ·rintro i x σ H' hx ⟨kk,rfl,sm,er⟩;have hil:i < ts.length:=by rw[<-hl];exact(List.getElem?_eq_some_iff.mp hx).1
    have ht:ts[i]? =some ts[i]:=List.getElem?_eq_getElem hil;have hcl:=zdJ ts hwf.2;have hcl':=zcZ ts i;have hcn:1+zdf ts<=100:=hnod;have hsub:nodes ts[i]<=zdf ts:=zgc ht;refine⟨_,rfl,.inl ⟨rfl,_,SqL.of er⟩,_,rfl,ts[i],x,rfl,(hrs i x _ hx ht).keep (keepT sm),hwf.2.get ht,?_,by omega,λr H2 sm2 er2=>?_⟩
    ·have:=zbL ht;have:depL ts+1 < n+1:=hdep;omega
    have hc1:=zeM ts[i] (hwf.2.get ht);refine⟨rw,r,_,_,rfl,rfl,sm2 _ _ er,er2,szL ?_,?_⟩
    ·simp only[List.length_map,List.length_append,List.length_cons,List.length_nil];omega
    ·refine⟨_,rfl,λb o hb=>?_,?_⟩
     ·rw[zl (zo hb hrw)];exact sm2 _ _ (sm _ _ hb)
     ·rw[zj,ziT ht];simp only[List.map_append,List.append_assoc]
   ·rintro σ H' ⟨kk,rfl,sm,er⟩;refine⟨_,rfl,q rw H' sm ?_⟩;rw[er,hl,List.take_length]
    rfl
theorem zoR (D:Dfn K mg "seal" zn1 ["thing"]) (zit:Fn P w K mg base "codes" 12 ["thing"] (zkO 10)):Fn P w K mg base "seal" 13 ["thing"] zeR:=by
 refine D.ok (k:=12) zhT (λvs H Q E h=>?_) (λf cdv A outer s H vs Q E hr h=>?_)
 ·obtain⟨t,v,rfl,_⟩:=h;rfl
 obtain⟨t,v,rfl,hrep,hwf,hdep,hnod,q⟩:=h;refine⟨_,(zb (zq (i:=1) zhT.nd rfl (Or.inl rfl) zg)
 (zb (zaH PassesOwn.never rfl (zbG (zF zit hr (by omega) (by rfl) (za (pv 0) zc))) (zah (i:=2) zhT.nd rfl (Or.inl rfl))
 (zd (zq (i:=1) zhT.nd rfl (Or.inl rfl) (zC zaO (zC zar (zC zcc (pv 1) zg) (pv 2)) (zC zbf (zC zca zg zg) zg)))))
 (zd (zm (zC zar (pv 1) zg))))),?_⟩
 refine⟨_,rfl,t,v,rfl,hrep,hwf,hdep,hnod,λr H1 sm er=>?_⟩;refine⟨r,rfl,⟨_,SqL.of er⟩,?_⟩;refine zc4 (xs:=(zaZ t).map V.int) (λi σ H'=>H'=H1/\∃kk,σ=[some v,some (.int (zec ((zaZ t).take i))),kk]) ⟨rfl,_,rfl⟩ ?_ ?_ ?_
 ·rintro i σ H' _ ⟨rfl,_⟩;exact SqL.of er
 ·rintro i x σ H' hx ⟨rfl,kk,rfl⟩;rw[List.getElem?_map] at hx;obtain⟨c,hc,rfl⟩:=Option.map_eq_some_iff.mp hx;have rg:=zfs ((zaZ t).take i);have e61:(2:Int) ^ (61:Int).toNat - 1=2305843009213693951:=by decide+kernel
  refine⟨_,rfl,_,_,rfl,rfl,.inl ⟨by omega,by omega⟩,_,rfl,_,_,rfl,rfl,_,_,rfl,rfl,⟨by decide,by decide,by decide⟩,_,_,rfl,rfl,_,_,rfl,rfl,(show(0:Int) < 2 ^ (61:Int).toNat - 1 by decide+kernel),rfl,some (.int c),?_⟩;rw[zjN hc,<-e61]
  rfl
 ·rintro σ H' ⟨rfl,kk,rfl⟩;refine⟨_,rfl,_,_,rfl,rfl,?_⟩;rw[List.length_map,List.take_length];exact q _ sm
end
end Pv
namespace Pv
open PySem L2
noncomputable abbrev zgd:Stmt:=top 11
noncomputable abbrev zkb:Stmt:=top 12
noncomputable abbrev za4:Stmt:=top 13
theorem zlB:zr ["thing"] ["thing"] (zh zgd):=L2.fsc (by decide+kernel)
theorem zk4:zr ["one","other","kind"] ["one","other"] (zh zkb):=L2.fsc (by decide+kernel)
theorem zbo:zr ["one","other","mine","its"] ["one","other"] (zh za4):=L2.fsc (by decide+kernel)
def zhY:Sp:=λvs H Q _=>∃(t:Th) (v:V),vs=[v]/\Rep H t v/\Q (.int (zav t)) H
def zcD (n:Nat):Sp:=λvs H Q _=>∃(t u:Th) (v w:V),vs=[v,w]/\Rep H t v/\Rep H u w/\dep t < n/\dep t<=40/\∀H':Hp,Same H H'->Q (.bl (zf t u)) H'
def znQ (n:Nat):Sp:=λvs H Q _=>∃(ts us:List Th) (v w:V),vs=[v,w]/\Rep H (.tup ts) v/\Rep H (.tup us) w/\depL ts < n/\depL ts<=39/\∀H':Hp,Same H H'->Q (.bl (za0 ts us)) H'
section
variable {P:Program}{w:World}{K:QA}{mg:QB}{base:Heap}
theorem zpe (D:Dfn K mg "kind_of" zgd ["thing"]) (zv:mg "isinstance" =none) (zba:mg "int" =none) (zb7:mg "str" =none):Fn P w K mg base "kind_of" 1 ["thing"] zhY:=by
 refine D.ok (k:=0) zlB (λvs H Q E h=>?_) (λf cdv A outer s H vs Q E hr h=>?_)
 ·obtain⟨t,v,rfl,_⟩:=h;rfl
 obtain⟨t,v,rfl,rt,q⟩:=h;refine⟨_,(zb (zL (zB zcI (pv 0) zaC (zA _))
 (zd (zm zg))
 zu)
 (zb (zL (zai (zH (zan) (by rfl) zv (by rfl) (za (pv 0) (za (zaS (v:=.ty "int") (by rfl) zba (by rfl) rfl) zc))))
 (zd (zm zg))
 zu)
 (zb (zL (zai (zH (zan) (by rfl) zv (by rfl) (za (pv 0) (za (zaS (v:=.ty "str") (by rfl) zb7 (by rfl) rfl) zc))))
 (zd (zm zg))
 zu)
 (zd (zm zg))))),?_⟩
 refine⟨_,rfl,rfl,_,rfl,?_⟩;cases rt with
 | non=>exact ifT (by decide) q
 | int i=>refine ifF (by rfl) ?_;refine⟨_,rfl,_,_,_,_,rfl,.int i,rfl,_,rfl,?_⟩;exact ifT rfl q
 | str x=>refine ifF (by rfl) ?_;refine⟨_,rfl,_,_,_,_,rfl,.str x,rfl,_,rfl,?_⟩;refine ifF rfl ?_;refine⟨_,rfl,_,_,_,_,rfl,.str x,rfl,_,rfl,?_⟩;exact ifT rfl q
 | tup e l h=>refine ifF (by rfl) ?_;refine⟨_,rfl,_,_,_,_,rfl,.tup e,rfl,_,rfl,?_⟩;refine ifF rfl ?_;refine⟨_,rfl,_,_,_,_,rfl,.tup e,rfl,_,rfl,?_⟩;exact ifF rfl q
theorem zlG {n:Nat}(D:Dfn K mg "is_tuple_ahead" za4 ["one","other"]) (zbl:Fn P w K mg base "ahead" (2 * n+2) ["one","other"] (zcD n)) (zhE:mg "zip" =none) (zP:mg "len" =none):Fn P w K mg base "is_tuple_ahead" (2 * n+3) ["one","other"] (znQ n):=by
 refine D.ok (k:=2 * n+2) zbo (λvs H Q E h=>?_) (λf cdv A outer s H vs Q E hr h=>?_)
 ·obtain⟨ts,us,v,w,rfl,_⟩:=h;rfl
 obtain⟨ts,us,v,w,rfl,r1,r2,hd,hd40,q⟩:=h;cases r1 with
 | @tup a xs _ e1 l1 h1=>
 cases r2 with
 | @tup b ys _ e2 l2 h2=>
 refine⟨_,(zb (zaH PassesOwn.never rfl (zqB (by rfl) zhE (za (pv 0) (za (pv 1) zc))) (zng rfl (zd9 (zah (i:=2) zbo.nd rfl (Or.inl rfl)) (zd9 (zah (i:=3) zbo.nd rfl (Or.inl rfl)) zk1)))
 (zd (zL (zB (zfQ hr) (pv 2) (pv 3) (zA _))
 (zd (zm (zF zbl hr (by omega) (by rfl) (za (pv 2) (za (pv 3) zc)))))
 zu)))
 (zd (zm (zax zcY (zH (zG) (by rfl) zP (by rfl) (za (pv 0) zc)) (zH (zG) (by rfl) zP (by rfl) (za (pv 1) zc)) (zA _))))),?_⟩
 refine⟨_,rfl,_,rfl,a,b,xs,ys,rfl,SqT.of e1,SqT.of e2,?_⟩;refine zoy (K:=K) (p:=a) (q:=b) (xs:=xs) (us:=ys) (λi σ H'=>∃k2 k3,σ=[some (.ref a),some (.ref b),k2,k3]/\Same H H'/\za0 ts us=za0 (ts.drop i) (us.drop i)) ⟨_,_,rfl,Same.refl _,rfl⟩ ?_ ?_ ?_
 ·rintro i σ H1 ⟨k2,k3,rfl,sm,_⟩;exact⟨SqT.of (sm _ _ e1),SqT.of (sm _ _ e2)⟩
 ·rintro i x u T σ H1 hx hu hT ⟨k2,k3,rfl,sm,ea⟩;have hi:i < ts.length:=by rw[<-l1];exact(List.getElem?_eq_some_iff.mp hx).1
  have hj:i < us.length:=by rw[<-l2];exact(List.getElem?_eq_some_iff.mp hu).1
  have ht:ts[i]? =some ts[i]:=List.getElem?_eq_getElem hi;have hv:us[i]? =some us[i]:=List.getElem?_eq_getElem hj;have tk:Tups H (upd H1 T (.tup [x,u])):=(Same.tups sm).trans (Tups.new hT);have ra:=(h1 i x _ hx ht).keep tk;have rb:=(h2 i u _ hu hv).keep tk;have hdi:=zbL ht;refine⟨T,_,rfl,SqT.of zj,rfl,_,_,rfl,_,_,rfl,rfl,?_⟩;refine⟨_,rfl,_,rfl,ts[i],us[i],ra,rb,by omega,_,rfl,?_⟩;have sm':Same H (upd H1 T (.tup [x,u])):=λc o hc=>by rw[zl (zo (sm _ _ hc) hT)];exact sm _ _ hc
  rw[zfr hi hj] at ea;refine ifB (λc=>?_) (λc=>?_)
  ·have ne:¬eqT ts[i] us[i]=true:=by intro z;rw[z] at c;cases c
   rw[if_neg ne] at ea;refine⟨_,rfl,_,rfl,ts[i],us[i],_,_,rfl,ra,rb,by omega,by omega,λH2 s2=>?_⟩;rw[<-ea];exact q H2 (sm'.trans s2)
  ·have eq:eqT ts[i] us[i]=true:=by
    cases z:eqT ts[i] us[i] with
    | true=>rfl
    | false=>rw[z] at c;cases c
   rw[if_pos eq] at ea;exact⟨_,_,rfl,sm',ea⟩
 ·rintro σ H1 ⟨k2,k3,rfl,sm,ea⟩;refine⟨_,rfl,a,_,rfl,.inr (SqT.of (sm _ _ e1)),_,rfl,b,_,rfl,.inr (SqT.of (sm _ _ e2)),_,_,rfl,rfl,?_⟩;rw[l1,l2,zgA] at ea;have ed:decide ((xs.length:Int) < (ys.length:Int))=za0 ts us:=by rw[ea,l1,l2];rw[Bool.eq_iff_iff];simp
  show Q (.bl (decide ((xs.length:Int) < (ys.length:Int)))) H1;rw[ed];exact q H1 sm
theorem ziE (Da:Dfn K mg "ahead" zkb ["one","other"]) (Dt:Dfn K mg "is_tuple_ahead" za4 ["one","other"]) (zdy:Fn P w K mg base "kind_of" 1 ["thing"] zhY) (zhE:mg "zip" =none) (zP:mg "len" =none) (zv:mg "isinstance" =none) (zcT:mg "tuple" =none):
  ∀n:Nat,Fn P w K mg base "ahead" (2 * n+2) ["one","other"] (zcD n)
 | 0=>Da.never λvs H Q E h=>by obtain⟨t,u,v,w,_,_,_,h1,_⟩:=h;omega
 | n+1=>by
  have zfd:=zlG Dt (ziE Da Dt zdy zhE zP zv zcT n) zhE zP;refine Da.ok (k:=2 * n+3) zk4 (λvs H Q E h=>?_) (λf cdv A outer s H vs Q E hr h=>?_)
  ·obtain⟨t,u,v,w,rfl,_⟩:=h;rfl
  obtain⟨t,u,v,w,rfl,r1,r2,hd,hd40,q⟩:=h;refine⟨_,(zb (zq (i:=2) zk4.nd rfl (Or.inl rfl) (zF zdy hr (by omega) (by rfl) (za (pv 0) zc)))
 (zb (zL (zB zcr (pv 2) (zF zdy hr (by omega) (by rfl) (za (pv 1) zc)) (zA _))
 (zd (zm (zax zcY (pv 2) (zF zdy hr (by omega) (by rfl) (za (pv 1) zc)) (zA _))))
 zu)
 (zb (zL (zB zcI (pv 0) zaC (zA _))
 (zd (zm zbM))
 zu)
 (zb (zL (zai (zH (zan) (by rfl) zv (by rfl) (za (pv 0) (za (zaS (v:=.ty "tuple") (by rfl) zcT (by rfl) rfl) zc))))
 (zd (zm (zF zfd hr (by omega) (by rfl) (za (pv 0) (za (pv 1) zc)))))
 zu)
 (zd (zm (zax (OpR.or zcY zhB) (pv 0) (pv 1) (zA _)))))))),?_⟩
  refine⟨_,rfl,t,v,rfl,r1,?_⟩;refine⟨_,rfl,_,rfl,u,w,rfl,r2,rfl,_,rfl,?_⟩;rw[zaN];refine ifB (λc=>?_) (λc=>?_)
  ·have ne:zav t≠zav u:=λz=>by rw[decide_eq_true z] at c;cases c
   refine⟨_,rfl,_,rfl,u,w,rfl,r2,_,_,rfl,rfl,?_⟩;show Q (.bl (decide (zav t < zav u))) H;rw[<-zft ne];exact q H (Same.refl _)
  ·have eq:zav t=zav u:=by
    by_cases z:zav t=zav u
    ·exact z
    ·rw[Jd z] at c;cases c
   refine⟨_,rfl,rfl,_,rfl,?_⟩;cases r1 with
   | non=>
    refine ifT (by decide) ?_;cases r2 with
    | non=>exact q H (Same.refl _)
    | int i=>exact Ji eq (by show(0:Int)≠1;decide)
    | str x=>exact Ji eq (by show(0:Int)≠2;decide)
    | tup e l h=>exact Ji eq (by show(0:Int)≠3;decide)
   | int i=>
    refine ifF (by rfl) ?_;refine⟨_,rfl,_,_,_,_,rfl,.int i,rfl,_,rfl,?_⟩;refine ifF rfl ?_;cases r2 with
    | non=>exact Ji eq (by show(1:Int)≠0;decide)
    | int j=>exact⟨_,rfl,_,rfl,.inl ⟨_,_,rfl,rfl,q H (Same.refl _)⟩⟩
    | str x=>exact Ji eq (by show(1:Int)≠2;decide)
    | tup e l h=>exact Ji eq (by show(1:Int)≠3;decide)
   | str x=>
    refine ifF (by rfl) ?_;refine⟨_,rfl,_,_,_,_,rfl,.str x,rfl,_,rfl,?_⟩;refine ifF rfl ?_;cases r2 with
    | non=>exact Ji eq (by show(2:Int)≠0;decide)
    | int j=>exact Ji eq (by show(2:Int)≠1;decide)
    | str y=>exact⟨_,rfl,_,rfl,.inr ⟨_,_,rfl,rfl,q H (Same.refl _)⟩⟩
    | tup e l h=>exact Ji eq (by show(2:Int)≠3;decide)
   | @tup a xs ts e l h=>
    refine ifF (by rfl) ?_;refine⟨_,rfl,_,_,_,_,rfl,.tup e,rfl,_,rfl,?_⟩;refine ifT rfl ?_;cases r2 with
    | non=>exact Ji eq (by show(3:Int)≠0;decide)
    | int j=>exact Ji eq (by show(3:Int)≠1;decide)
    | str y=>exact Ji eq (by show(3:Int)≠2;decide)
    | @tup b ys us e' l' h'=>have hd':depL ts+1 < n+1:=hd;have hd'':depL ts+1<=40:=hd40;exact⟨_,rfl,_,rfl,ts,us,_,_,rfl,.tup e l h,.tup e' l' h',by omega,by omega,λH2 s2=>q H2 s2⟩
end
end Pv
namespace Pv
open PySem L2
end Pv
namespace L2
open PySem PySem.Spec PyProof.Rows
section
variable {X:Cx}{e:Expr}{es:List Expr}{te:TE}{pos:Pos}
end
end L2
namespace Pv
open PySem L2 PyProof.Rows PySem.NumText
noncomputable def tx (l:List Nat):Str:=⟨l.toArray⟩
noncomputable def numL (i:Int):List Nat:=(Str.ofString (toString i)).cps.toList
mutual
noncomputable def wrT:Th->List Nat
 | .non=>[111]
 | .int i=>110::(numL i++ [59])
 | .str x=>116::(numL x.length++58::x.cps.toList)
 | .tup ts=>40::(wrL ts++ [41])
noncomputable def wrL:List Th->List Nat
 | []=>[]
 | t::r=>wrT t++wrL r
end
end Pv
namespace Pv
open PySem L2 PyProof.Rows PySem.NumText
noncomputable abbrev _root_.JC:=@of_decide_eq_false
theorem zkE:∀a b:List Int,HT.lexLt a b=false->HT.lexLt b a=false->a=b
 | [],[],_,_=>rfl
 | [],_::_,h,_=>by cases h
 | _::_,[],_,h=>by cases h
 | x::a,y::b,h1,h2=>by
  rw[HT.lexLt_cons] at h1 h2;by_cases e:x=y
  ·rw[if_pos e] at h1;rw[if_pos e.symm] at h2;rw[e,zkE a b h1 h2]
  ·rw[if_neg e] at h1;rw[if_neg (λz=>e z.symm)] at h2;have:=JC h1;have:=JC h2;omega
theorem zk9:∀a b c:List Int,HT.lexLt a c=true->HT.lexLt a b=true\/HT.lexLt b c=true
 | [],[],[],h=>by cases h
 | [],[],_::_,_=>.inr rfl
 | [],_::_,_,_=>.inl rfl
 | _::_,_,[],h=>by cases h
 | _::_,[],_::_,_=>.inr rfl
 | x::a,y::b,z::c,h=>by
  rw[HT.lexLt_cons] at h;rw[HT.lexLt_cons,HT.lexLt_cons];by_cases e1:x=y
  ·by_cases e2:y=z
   ·rw[if_pos (e1.trans e2)] at h;rw[if_pos e1,if_pos e2];exact zk9 a b c h
   ·rw[if_neg (λq=>e2 (e1.symm.trans q))] at h;rw[if_neg e2];have:=Jt h;exact .inr (decide_eq_true (by omega))
  ·by_cases e2:y=z
   ·rw[if_neg (λq=>e1 (q.trans e2.symm))] at h;rw[if_neg e1];have:=Jt h;exact .inl (decide_eq_true (by omega))
   ·rw[if_neg e1,if_neg e2];by_cases hx:x < y
    ·exact .inl (decide_eq_true hx)
    ·refine .inr (decide_eq_true ?_);by_cases e3:x=z
     ·omega
     ·rw[if_neg e3] at h;have:=Jt h;omega
theorem zpg {t u:Th}(h:rowT t=rowT u):t=u:=by refine Classical.byContradiction λne=>?_;have e1:=zkM t u [0] [1] ne;have e2:=zkM t u [1] [0] ne;rw[h,zh2] at e1 e2;rw[<-e1] at e2;exact Ji e2 (by decide)
theorem zhg {t u:Th}(h1:zf t u=false)(h2:zf u t=false):t=u:=zpg (zkE _ _ (by rw[zbp];exact h1) (by rw[zbp];exact h2))
theorem zab {t u:Th}(h:zf t u=true):zf u t=false:=by
 cases e:zf u t with
 | false=>rfl
 | true=>
  rw[<-zbp] at h e;have:∀a b:List Int,HT.lexLt a b=true->HT.lexLt b a=true->False:=λa b=>by
   induction a generalizing b with
   | nil=>intro p q;cases b <;> cases q
   | cons x a ih=>
    intro p q;cases b with
    | nil=>cases p
    | cons y b=>
     rw[HT.lexLt_cons] at p q;by_cases z:x=y
     ·rw[if_pos z] at p;rw[if_pos z.symm] at q;exact ih b p q
     ·rw[if_neg z] at p;rw[if_neg (λk=>z k.symm)] at q;have:=Jt p;have:=Jt q;omega
  exact(this _ _ h e).elim
end Pv
namespace L2
open PySem PySem.Spec PyProof.Rows
noncomputable def zc7 (kvs:QG):List Int:=kvs.filterMap λp=>match p.1 with | .inl n=>some n | .inr _=>none
def IntKeys (kvs:QG):Prop:=kvs.map (·.1)=(zc7 kvs).map Sum.inl
theorem KV.at {kvs:QG}{vs:List (Key ×Value)}(r:KV kvs vs):kvs.length=vs.length/\kvs.map (·.1)=vs.map (·.1):=by
 unfold KV at r
 induction r with
 | nil=>exact⟨rfl,rfl⟩
 | cons h _ ih=>exact⟨by simp[ih.1],by simp[ih.2,h.1]⟩
section
variable {X:Cx}
theorem zpd {kvs:QG}{vs:List (Key ×Value)}(r:KV kvs vs)(hi:IntKeys kvs){j:Nat}{k:Key}{x v:Value}(e:vs[j]? =some (k,x))(hk:zgJ k v=true):∃t,v=.int ((zc7 kvs)[j]?.getD 0) t/\j < (zc7 kvs).length:=by
 have h1:(vs.map (·.1))[j]? =some k:=by rw[List.getElem?_map,e];rfl
 rw[<-r.at.2,hi,List.getElem?_map] at h1;cases z:(zc7 kvs)[j]? with
 | none=>rw[z] at h1;cases h1
 | some n=>rw[z] at h1;have h2:k=Sum.inl n:=(Option.some.inj h1).symm;subst h2;obtain⟨t,e'⟩:=Value.isInt_shape (k:=n) (v:=v) hk;exact⟨t,e',(List.getElem?_eq_some_iff.mp z).1⟩
theorem zgG:∀{us:QN} {ns:List Int},us.length=ns.length->(∀(j:Nat) (v:Value),us[j]? =some v->∃t,v=.int (ns[j]?.getD 0) t)->IntsAre us ns
 | [],[],_,_=>.nil
 | v::us,n::ns,hl,h=>by obtain⟨t,e⟩:=h 0 v rfl;subst e;exact .cons n t (zgG (by simpa using hl) λj v e=>h (j+1) v e)
 | [],_::_,hl,_=>by simp at hl
 | _::_,[],hl,_=>by simp at hl
theorem zhX {kvs:QG}(h:IntKeys kvs):(zc7 kvs).length=kvs.length:=by have:=congrArg List.length h;simpa using this.symm
theorem gathered {P:Program}{w:World}{A:Around}{E:QC}{s:Shared}{T:String}{a d:Addr}{n:Nat}{F:Nat->Value->Prop}{G:Heap->Prop}{R:List Value->Shared->Prop}
  (src:PySem.W.KdlSrc P w T a d n F G) (calm:A.handled=none) (g:G s.heap) (le:n<=sizeLine)
  (h:∀(h':Heap) (k:Nat) (xs:Array Value),(∀b o,s.heap.get? b=some o->h'.get? b=some o)->s.heap.objs.size < h'.objs.size->PySem.ItemsOf F xs n->R xs.toList {s with heap:=h',toks:=k}):
  wpAny (model P w) A (collect (.ref a)) R E s:=by
 obtain⟨lt1,lt2⟩:=src.there _ g;unfold collect;refine Ja (wpAny_runValue (codeAny_builtin entry_proto_collect' ?_));rw[Around.under_plainId PySem.F.plain_proto_collect _];refine Ja (m:=newList []) (wpAny_newObj_type (wpAny_pure ⟨plainId_quiet PySem.F.plain_list_iadd _,codeAny_builtin entry_list_iadd' ?_⟩));rw[Around.under_plainId PySem.F.plain_list_iadd _];refine wpAny_mono (PySem.W.kdl_extend (A:=A) (s:={s with heap:=s.heap.push {cls:=.type "list",data:=.seq ([]:QN).toArray}})
  (R:=λq s'=>∃h' k xs c,q=.ok (.ret (.ref s.heap.objs.size))/\s'={s with heap:=h',toks:=k}/\(∀b o,s.heap.get? b=some o->h'.get? b=some o)/\h'.get? s.heap.objs.size=some {cls:=.type "list",dict:=none,data:=.seq xs c,slots:= #[]}/\PySem.ItemsOf F xs n)
  src calm (src.keep _ _ g λb _ o e=>Heap.get?_push_of_some _ e) s.heap.objs.size (Nat.ne_of_gt lt1) (Nat.ne_of_gt lt2) (.ref s.heap.objs.size) 0 (Heap.get?_push_size _ rfl)
  (λh' k xs c kk hS hx=>⟨h',k,xs,c,rfl,rfl,λb o e=>kk b o (Jm (Heap.lt_size e)) (Heap.get?_push_of_some _ e),hS,hx⟩) le) (λfin s' x=>?_) (λe s' x=>?_)
 ·cases fin with
  | done f=>obtain⟨h',k,xs,c,e,rfl,kk,hS,hx⟩:=x;cases e;exact Ja (m:=load s.heap.objs.size) (wpAny_load hS (wpAny_pure (h h' k xs kk (Heap.lt_size hS) hx)))
  | again c₁=>refine⟨x.1,codeAny_mono x.2 λq s₂ y=>?_⟩;obtain⟨h',k,xs,c,rfl,rfl,kk,hS,hx⟩:=y;exact Ja (m:=load s.heap.objs.size) (wpAny_load hS (wpAny_pure (h h' k xs kk (Heap.lt_size hS) hx)))
 ·obtain⟨_,_,_,_,e',_⟩:=x;cases e'
end
end L2
namespace Pv
open PySem L2
inductive RepL (H:Hp):List Th->List V->Prop where
 | nil:RepL H [] []
 | cons {t:Th} {v:V} {ts:List Th} {vs:QQ} (h:Rep H t v) (r:RepL H ts vs):RepL H (t::ts) (v::vs)
theorem RepL.len {H:Hp}:∀{ts:List Th} {vs:QQ},RepL H ts vs->vs.length=ts.length
 | _,_,.nil=>rfl
 | _,_,.cons _ r=>by rw[List.length_cons,List.length_cons,r.len]
theorem RepL.at {H:Hp}:∀{ts:List Th} {vs:QQ},RepL H ts vs->∀(i:Nat) (x:V) (t:Th),vs[i]? =some x->ts[i]? =some t->Rep H t x
 | _,_,.nil,i,x,t,e,_=>by simp at e
 | _,_,.cons h r,0,x,t,e1,e2=>by simp at e1 e2;subst e1;subst e2;exact h
 | _,_,.cons h r,i+1,x,t,e1,e2=>r.at i x t (by simpa using e1) (by simpa using e2)
theorem RepL.keep {H H':Hp}(k:Tups H H'):∀{ts:List Th} {vs:QQ},RepL H ts vs->RepL H' ts vs
 | _,_,.nil=>.nil
 | _,_,.cons h r=>.cons (h.keep k) (r.keep k)
theorem RepL.new {H:Hp}{ts:List Th}{vs:QQ}{p:Addr}(r:RepL H ts vs)(hp:H p=none):Rep (upd H p (.tup vs)) (.tup ts) (.ref p):=
 .tup zj r.len λi x t e1 e2=>(r.at i x t e1 e2).keep (Tups.new hp)
theorem RepL.of {H:Hp}:∀{ts:List Th} {vs:QQ},vs.length=ts.length->(∀(i:Nat) (x:V) (t:Th),vs[i]? =some x->ts[i]? =some t->Rep H t x)->RepL H ts vs
 | [],[],_,_=>.nil
 | t::ts,v::vs,l,h=>.cons (h 0 v t rfl rfl) (RepL.of (by simpa using l) λi x u e1 e2=>h (i+1) x u (by simpa using e1) (by simpa using e2))
 | [],_::_,l,_=>by simp at l
 | _::_,[],l,_=>by simp at l
theorem Rep.list {H:Hp}{ts:List Th}{v:V}(r:Rep H (.tup ts) v):∃a xs,v=.ref a/\H a=some (.tup xs)/\RepL H ts xs:=by
 cases r with
 | @tup a xs _ e l h=>exact⟨a,xs,rfl,e,RepL.of l h⟩
theorem RepL.pick {H:Hp}{ts:List Th}{vs:QQ}{p:Th->Prop}{i:Int}(r:RepL H ts vs)(h0:0<=i)(h1:i < ts.length)(hp:∀t∈ts,p t):∃v t,atI vs i=some v/\Rep H t v/\p t:=by
 have hl:=r.len;have hi:i.toNat < ts.length:=by omega
 have hv:i.toNat < vs.length:=by omega
 have ei:i=((i.toNat:Nat):Int):=by omega
 have q:atI vs ((i.toNat:Nat):Int)=some vs[i.toNat]:=zaT (List.getElem?_eq_getElem hv);rw[<-ei] at q;exact⟨_,ts[i.toNat],q,r.at _ _ _ (List.getElem?_eq_getElem hv) (List.getElem?_eq_getElem hi),hp _ (Jp hi)⟩
theorem RepL.snoc {H:Hp}{t:Th}{v:V}(h:Rep H t v):∀{ts:List Th} {vs:QQ},RepL H ts vs->RepL H (ts++ [t]) (vs++ [v])
 | _,_,.nil=>.cons h .nil
 | _,_,.cons h' r=>.cons h' (r.snoc h)
section
variable {X:Cx}
end
end Pv
namespace Pv
open PySem L2
abbrev _root_.QF:=List (Int ×Th)
noncomputable def zD (cs:QF)(n:Int):Option Th:=(cs.find? λp=>decide (p.1=n)).map (·.2)
inductive DRep (H:Hp):List (Int ×Th)->List (Key ×V)->Prop where
 | nil:DRep H [] []
 | cons {n:Int} {t:Th} {v:V} {cs:QF} {kvs:QG} (h:Rep H t v) (r:DRep H cs kvs):DRep H ((n,t)::cs) ((.inl n,v)::kvs)
theorem DRep.len {H:Hp}{cs:QF}{kvs:QG}(r:DRep H cs kvs):kvs.length=cs.length:=by
 induction r with
 | nil=>rfl
 | cons _ _ ih=>rw[List.length_cons,List.length_cons,ih]
theorem DRep.keep {H H':Hp}(k:Tups H H'){cs:QF}{kvs:QG}(r:DRep H cs kvs):DRep H' cs kvs:=by
 induction r with
 | nil=>exact .nil
 | cons h _ ih=>exact .cons (h.keep k) ih
theorem DRep.keys {H:Hp}{cs:QF}{kvs:QG}(r:DRep H cs kvs):zc7 kvs=cs.map (·.1)/\L2.IntKeys kvs:=by
 induction r with
 | nil=>exact⟨rfl,rfl⟩
 | @cons n t v cs kvs _ _ ih=>have e:zc7 ((.inl n,v)::kvs)=n::zc7 kvs:=rfl;refine⟨by rw[e,ih.1];rfl,?_⟩;unfold L2.IntKeys;rw[e,List.map_cons,List.map_cons];exact congrArg _ ih.2
theorem zas {n m:Int}{t:Th}{cs:QF}:zD ((n,t)::cs) m=if n=m then some t else zD cs m:=by
 unfold zD;rw[List.find?_cons];by_cases e:n=m
 ·rw[if_pos e,decide_eq_true e];rfl
 ·rw[if_neg e,Jd e]
theorem zf0 {n m:Int}{v:V}{kvs:QG}:valV ((Sum.inl n,v)::kvs) (Sum.inl m:Key)=if n=m then some v else valV kvs (.inl m):=by
 by_cases e:n=m
 ·rw[if_pos e];exact zef (by rw[e])
 ·rw[if_neg e];unfold valV;rw[List.find?_cons];rw[Jd (λz=>e (Sum.inl.inj z))]
theorem DRep.none {H:Hp}{cs:QF}{kvs:QG}(r:DRep H cs kvs){n:Int}(h:zD cs n=.none):valV kvs (.inl n)=.none:=by
 induction r with
 | nil=>rfl
 | @cons m t v cs kvs _ _ ih=>
  rw[zas] at h;rw[zf0];by_cases e:m=n
  ·rw[if_pos e] at h;cases h
  ·rw[if_neg e] at h ⊢;exact ih h
theorem DRep.some {H:Hp}{cs:QF}{kvs:QG}(r:DRep H cs kvs){n:Int}{t:Th}(h:zD cs n=.some t):∃v,valV kvs (.inl n)=.some v/\Rep H t v:=by
 induction r with
 | nil=>cases h
 | @cons m u v cs kvs hv _ ih=>
  rw[zas] at h;rw[zf0];by_cases e:m=n
  ·rw[if_pos e] at h ⊢;cases h;exact⟨v,rfl,hv⟩
  ·rw[if_neg e] at h ⊢;exact ih h
theorem DRep.back {H:Hp}{cs:QF}{kvs:QG}(r:DRep H cs kvs){n:Int}{v:V}(h:valV kvs (.inl n)=.some v):∃t,zD cs n=.some t/\Rep H t v:=by
 cases e:zD cs n with
 | none=>rw[r.none e] at h;cases h
 | some t=>obtain⟨v',e',rv⟩:=r.some e;rw[h] at e';cases e';exact⟨t,rfl,rv⟩
theorem DRep.snoc {H:Hp}{cs:QF}{kvs:QG}{n:Int}{t:Th}{v:V}(h:Rep H t v)(r:DRep H cs kvs):DRep H (cs++ [(n,t)]) (kvs++ [(.inl n,v)]):=by
 induction r with
 | nil=>exact .cons h .nil
 | cons h' _ ih=>exact .cons h' ih
theorem DRep.put {H:Hp}{cs:QF}{kvs:QG}{n:Int}{t:Th}{v:V}(r:DRep H cs kvs)(h:Rep H t v)(hn:zD cs n=.none):DRep H (cs++ [(n,t)]) (putK kvs (.inl n) v):=by rw[znO v (r.none hn)];exact r.snoc h
theorem DRep.again {H:Hp}{cs:QF}{kvs:QG}{n:Int}{t:Th}{v:V}(r:DRep H cs kvs)(h:Rep H t v)(hn:zD cs n=.some t)(nd:(cs.map (·.1)).Nodup):DRep H cs (putK kvs (.inl n) v):=by
 have ha:(kvs.any λkv=>decide (kv.1=(Sum.inl n:Key)))=true:=by
  obtain⟨v',e,_⟩:=r.some hn;unfold valV at e;cases z:kvs.find? λkv=>decide (kv.1=(Sum.inl n:Key)) with
  | none=>rw[z] at e;cases e
  | some p=>exact List.any_eq_true.mpr ⟨p,List.mem_of_find?_eq_some z,by have:=List.find?_some z;exact this⟩
 unfold putK;rw[if_pos ha];clear ha
 induction r with
 | nil=>exact .nil
 | @cons m u v' cs kvs h' r' ih=>
  have nd':=List.nodup_cons.mp nd;rw[List.map_cons];by_cases e:m=n
  ·subst e;rw[if_pos rfl];rw[zas,if_pos rfl] at hn;cases hn;have rest:kvs.map (λkv=>if kv.1=(Sum.inl m:Key) then(kv.1,v) else kv)=kvs:=by
    have:∀kv∈kvs,(if kv.1=(Sum.inl m:Key) then(kv.1,v) else kv)=kv:=λkv hkv=>by
     refine if_neg λz=>nd'.1 ?_;have e1:=r'.keys;have m1:(Sum.inl m:Key)∈kvs.map (·.1):=by rw[<-z];exact List.mem_map_of_mem hkv
     rw[e1.2,List.mem_map] at m1;obtain⟨i,hi,ei⟩:=m1;cases ei;rw[<-e1.1];exact hi
    rw[List.map_congr_left this,List.map_id']
   rw[rest];exact .cons h r'
  ·rw[if_neg (λz=>e (Sum.inl.inj z))];rw[zas,if_neg e] at hn;exact .cons h' (ih hn nd'.2)
theorem zhD {cs:QF}{n:Int}{t:Th}(h:zD cs n=some t):(n,t)∈cs:=by
 induction cs with
 | nil=>cases h
 | cons p cs ih=>
  obtain⟨m,u⟩:=p;rw[zas] at h;by_cases e:m=n
  ·rw[if_pos e] at h;cases h;subst e;exact List.mem_cons_self
  ·rw[if_neg e] at h;exact Jl _ (ih h)
theorem zeK {cs:QF}{n:Int}(h:n∈cs.map (·.1)):∃t,zD cs n=some t:=by
 induction cs with
 | nil=>cases h
 | cons p cs ih=>
  obtain⟨m,u⟩:=p;rw[zas];by_cases e:m=n
  ·exact⟨u,if_pos e⟩
  ·rw[if_neg e];rw[List.map_cons,List.mem_cons] at h;exact ih (h.resolve_left λz=>e z.symm)
theorem zjE {cs:QF}{n:Int}(h:zD cs n=none):n∉cs.map (·.1):=λz=>by obtain⟨t,e⟩:=zeK z;rw[h] at e;cases e
theorem zdX {cs:QF}{n m:Int}{t:Th}:zD (cs++ [(n,t)]) m=match zD cs m with | some u=>some u | none=>if n=m then some t else none:=by
 induction cs with
 | nil=>rw[List.nil_append,zas];rfl
 | cons p cs ih=>
  obtain⟨k,u⟩:=p;rw[List.cons_append,zas,zas];by_cases e:k=m
  ·rw[if_pos e,if_pos e]
  ·rw[if_neg e,if_neg e,ih]
noncomputable def zaI (cs:QF)(ns:List Int):List Th:=ns.map λn=>(zD cs n).getD .non
end Pv
namespace L2
open PySem PySem.Spec PyProof.Rows Px
noncomputable def clsV:V->Value
 | .ty n=>.type n
 | .ref a=>.ref a
 | _=>.none
def Clss (ts:QQ):Prop:=∀v∈ts,(∃n,v=.ty n)\/∃a,v=.ref a
theorem zhc:∀{ts:QQ} {us:QN},Clss ts->Vals ts us->us=ts.map clsV
 | _,_,_,.nil=>rfl
 | t::ts,u::us,h,.cons r q=>by
  rw[List.map_cons,<-zhc (λv hv=>h v (.tail _ hv)) q];congr 1;rcases h t (.head _) with ⟨n,e⟩ | ⟨a,e⟩
  ·subst e;exact r
  ·subst e;exact r
section
variable {X:Cx}{pins:QE}{σ:St}{H:Hp}{s:Shared}
theorem TyOf.kit {x:V}{u t:Value}(I:Inv X pins σ H s)(rx:RelV x u)(ty:TyOf X.K H x t):∃Z:Heap->Prop,PySem.W.KitX X.K u t Z/\Z s.heap/\u≠ .builtin "__main__.__loader__#opaque" :=by
 cases ty with
 | non=>cases (show u=Value.none from rx);exact⟨_,PySem.W.kitx_none,True.intro,λz=>nomatch z⟩
 | bl y=>cases (show u=Value.bool y from rx);exact⟨_,PySem.W.kitx_bool,True.intro,λz=>nomatch z⟩
 | int i=>obtain⟨t,q⟩:=(show∃t,u=Value.int i t from rx);cases q;exact⟨_,PySem.W.kitx_int,True.intro,λz=>nomatch z⟩
 | str y=>obtain⟨t,q⟩:=(show∃t,u=Value.str y t from rx);cases q;exact⟨_,PySem.W.kitx_str,True.intro,λz=>nomatch z⟩
 | flt y=>obtain⟨t,q⟩:=(show∃t,u=Value.float y t from rx);cases q;exact⟨_,PySem.W.kitx_float,True.intro,λz=>nomatch z⟩
 | @lst a xs ea=>cases (show u=Value.ref a from rx);obtain⟨_,_,n,_,h1⟩:=(show zZ X.prog X.w H s.heap a (.lst xs) from I.hok a _ ea);exact⟨_,PySem.W.kitx_list,⟨_,h1,rfl⟩,λz=>nomatch z⟩
 | @frz a ob xs ea=>cases (show u=Value.ref a from rx);obtain⟨_,_,_,n,_,h1⟩:=(show zZ X.prog X.w H s.heap a (.frz ob (.lst xs)) from I.hok a _ ea);exact⟨_,PySem.W.kitx_list,⟨_,h1,rfl⟩,λz=>nomatch z⟩
 | @tup a xs ea=>cases (show u=Value.ref a from rx);obtain⟨_,_,_,p⟩:=(show zZ X.prog X.w H s.heap a (.tup xs) from I.hok a _ ea);obtain⟨o,h1,h2,_⟩:=p;exact⟨_,PySem.W.kitx_tuple,⟨o,h1,h2⟩,λz=>nomatch z⟩
 | @dK a kvs ea=>cases (show u=Value.ref a from rx);obtain⟨_,_,vs,_,p⟩:=(show zZ X.prog X.w H s.heap a (.dK kvs) from I.hok a _ ea);obtain⟨o,es,ep,h1,h2,_⟩:=p;exact⟨_,PySem.W.kitx_dict,⟨o,h1,h2.1⟩,λz=>nomatch z⟩
 | @dT a kvs ea=>cases (show u=Value.ref a from rx);obtain⟨_,_,xs,_,o,es,ep,h1,h2,_⟩:=(show zZ X.prog X.w H s.heap a (.dT kvs) from I.hok a _ ea);exact⟨_,PySem.W.kitx_dict,⟨o,h1,h2.1⟩,λz=>nomatch z⟩
 | @ins a C dx fs ea cl ha hn htk hm=>cases (show u=Value.ref a from rx);obtain⟨mA,O,_⟩:=zey I.hok ea;obtain⟨od,J,_⟩:=O.look;exact⟨_,PySem.W.kitx_own (cl.get _) cl.hd ha hn htk hm,J,λz=>nomatch z⟩
end
section
variable {X:Cx}
def zqt (K:QA):List V->Hp->VK->Prop:=λxs H Q=>∃x p ts t b,xs=[x,.ref p]/\H p=some (.tup ts)/\Clss ts/\TyOf K H x t/\PySem.W.kitAny K t (ts.map clsV)=some b/\Q (.bl b) H
theorem zih:zbn X (.builtin "isinstance") (zqt X.K):=by intro pins s σ H xs us Q I r h;obtain⟨x,p,ts,t,b,rfl,ep,cl,ty,e,q⟩:=h;obtain⟨u,w',rfl,ru,rw'⟩:=vals2 r;cases (show w'=Value.ref p from rw');obtain⟨Z,kx,z,ne⟩:=ty.kit I ru;obtain⟨_,its,vs,o,h1,h2,n,h3⟩:=(show zZ X.prog X.w H s.heap p (.tup ts) from I.hok p _ ep);have ei:=zhc cl vs;obtain⟨c0,d0,dt,sl⟩:=o;dsimp only at h2 h3;subst h2;subst h3;exact PySem.W.kia_tup kx I.kIn z h1 (by rw[ei];exact e) ne λtk=>⟨.bl b,H,I.tok tk,rfl,q⟩
end
end L2
namespace L2
open PySem PySem.Spec PyProof.Rows Px
section
variable {K:QA}{h:Heap}{mg:QB}{C f:Addr}{x m qual:Str}{st:Stmt}{ps:QP}{od an:QM}{sl:QJ}{oc kV dc pm cd ct:Value}
theorem zdd (a:PySem.W.findIn K (.ref C) m=some (some (.ref f)))(fn:PySem.W.isFn K (.ref f)=true)(l:K.lookup f=some ⟨oc,od,.func (PySem.W.fnOf m qual (zS st) (zM st) (zh st) .none kV dc pm an cd ct),sl⟩)(c:PySem.W.codeIn K cd qual=true)(k:PySem.W.keepIn K (.ref f)=true)
  (b:∀(kV doc pm:Value) (an:QM) (cdv ct:Value) (us:QN),us.length=ps.length->bindArgs (PySem.W.fnOf m qual (zS st) (zM st) (zh st) .none kV doc pm an cdv ct) ⟨us,[]⟩=pure (ps.zip us)):Mdf K C m qual st ps:=
 ⟨_,_,zbP l c k,(zbP l c k).binds b,⟨a,fn,k⟩⟩
theorem zmt (pg:PySem.W.plainGet K C Str.empty=true)(hd:PySem.W.hasDictIn K C=true)(po:PySem.W.plainOver K C=true)(sa:PySem.W.findIn K (.ref C) "__setattr__" =some (some (.builtin "object.__setattr__"))):Cls K C:=⟨pg,hd,po,sa⟩
theorem znD (X:K.In h)(G:h.Ns mainGlobals mg)(n:PySem.W.nsIn K mainGlobals x=some (some (.ref C)))(mk:PySem.W.makesIn K C=true)(a:PySem.W.findIn K (.ref C) "__init__" =some (some (.ref f))) (fn:PySem.W.isFn K (.ref f)=true)
  (l:K.lookup f=some ⟨oc,od,.func (PySem.W.fnOf "__init__" qual (zS st) (zM st) (zh st) .none kV dc pm an cd ct),sl⟩) (c:PySem.W.codeIn K cd qual=true) (k:PySem.W.keepIn K (.ref f)=true) (kc:PySem.W.keepIn K (.ref C)=true)
  (b:∀(kV doc pm:Value) (an:QM) (cdv ct:Value) (us:QN),us.length=ps.length->bindArgs (PySem.W.fnOf "__init__" qual (zS st) (zM st) (zh st) .none kV doc pm an cdv ct) ⟨us,[]⟩=pure (ps.zip us)):Mkd K mg x C qual st ps:=
 ⟨_,_,zbP l c k,(zbP l c k).binds b,⟨mk,a,fn,kc⟩,PySem.W.mg_of X G n⟩
theorem zib (q:xIn K C=true)(ov:zd6 K C=true)(sa:PySem.W.findIn K (.ref C) "__setattr__" =some (some (.builtin "object.__setattr__"))) (ga:PySem.W.findIn K (.ref C) "__getattribute__" =some (some (.builtin "BaseException.__getattribute__"))) (gn:PySem.W.findIn K (.ref C) "__getattr__" =some none)
  (kp:PySem.W.keepIn K (.ref C)=true):XCls K C:=⟨q,ov,sa,ga,gn,kp⟩
theorem zqf (X:K.In h)(G:h.Ns mainGlobals mg)(n:PySem.W.nsIn K mainGlobals x=some (some (.ref C)))(cl:XCls K C)(a:PySem.W.findIn K (.ref C) "__init__" =some (some (.ref f))) (fn:PySem.W.isFn K (.ref f)=true)
  (l:K.lookup f=some ⟨oc,od,.func (PySem.W.fnOf "__init__" qual (zS st) (zM st) (zh st) .none kV dc pm an cd ct),sl⟩) (c:PySem.W.codeIn K cd qual=true) (k:PySem.W.keepIn K (.ref f)=true)
  (b:∀(kV doc pm:Value) (an:QM) (cdv ct:Value) (us:QN),us.length=ps.length->bindArgs (PySem.W.fnOf "__init__" qual (zS st) (zM st) (zh st) .none kV doc pm an cdv ct) ⟨us,[]⟩=pure (ps.zip us)):XId K mg x C qual st ps:=
 ⟨cl,_,_,zbP l c k,(zbP l c k).binds b,a,fn,PySem.W.mg_of X G n⟩
theorem zd3 {R:Addr->Prop}(X:K.In h)(n:PySem.W.nsIn K mainGlobals x=some (some (.ref C)))(r:R C):∃C,R C:=⟨C,r⟩
end
end L2
namespace Px
open PySem PySem.W PySem.Builtin PySem.Builtin.ObjectAttr
section
variable {prog:Program}{w:World}{A:Around}{E:QC}{s:Shared}{K:Frag}{x D:Addr}{ox:Obj}{od:Option Obj}
end
end Px
namespace L2
open PySem PySem.Spec PyProof.Rows Px
structure zrA (K:QA)(C:Addr):Prop where
 cl:XCls K C
 ha:PySem.W.findIn K (.ref C) "__class__" =some (some (.builtin "object.__class__"))
 hn:PySem.W.specialIn K (.builtin "object.__class__") "__get__" =some (some (.builtin "getset_descriptor.__get__"))
 ht:PySem.W.takesIn K (.builtin "object.__class__")=some true
 hm:PySem.W.mroIn K C (.type "object")=some true
section
variable {X:Cx}{pins:QE}{σ:St}{H:Hp}{s:Shared}{a C:Addr}{od:QM}{fr:Bool}
end
section
variable {X:Cx}{x n:Str}{cv:Value}{body suite:List Stmt}{b₀:Stmt}{np hpos pos:Pos}{tb:(St->XK)->TS}{ts:TS}
end
end L2
namespace L2
open PySem PySem.Spec PyProof.Rows
section
variable {X:Cx}{x y1 y2:Str}{scope:Scope}{j1 j2:Nat}{c1 c2:Addr}
end
end L2
namespace Pv
open PySem L2
noncomputable abbrev zaq:Stmt:=inClass (top 51) 0
theorem zct:zr ["self"] ["self"] (zh zaq):=L2.fsc (by decide+kernel)
noncomputable abbrev zad:Stmt:=inClass (top 51) 1
theorem zdk:zr ["self","number","thing"] ["self","number","thing"] (zh zad):=L2.fsc (by decide+kernel)
noncomputable abbrev zcP:Stmt:=inClass (top 51) 2
theorem zfm:zr ["self","thing","number"] ["self","thing"] (zh zcP):=L2.fsc (by decide+kernel)
noncomputable abbrev zbk:Stmt:=inClass (top 51) 3
theorem zdC:zr ["self","number"] ["self","number"] (zh zbk):=L2.fsc (by decide+kernel)
noncomputable abbrev za5:Stmt:=inClass (top 4) 0
theorem zeT:zr ["self","one","other"] ["self","one","other"] (zh za5):=L2.fsc (by decide+kernel)
structure Good (t:Th):Prop where
 wf:Wf t
 dp:dep t<=8
 nd:nodes t<=80
structure Flds (fs:List (Str ×V))(d:Addr):Prop where
 la:fs.lookup ("laid" :Str)=some (V.ref d)
 n1:fs.lookup ("refuse_clash" :Str)=none
 n2:fs.lookup ("lay" :Str)=none
 n3:fs.lookup ("thing" :Str)=none
 n4:fs.lookup ("things" :Str)=none
 n5:fs.lookup ("paper" :Str)=none
theorem zrd (d:Addr):Flds [("laid",.ref d)] d:=⟨rfl,rfl,rfl,rfl,rfl,rfl⟩
structure VOk (H:Hp)(C a d:Addr)(kvs:QG):Prop where
 ob:∃dx fs,H a=some (.ins C dx fs)/\Flds fs d
 di:H d=some (.dK kvs)
theorem VOk.keep {H H':Hp}{C a d:Addr}{kvs:QG}(v:VOk H C a d kvs)(s:Same H H'):VOk H' C a d kvs:=by obtain⟨⟨dx,fs,e,f⟩,e2⟩:=v;exact⟨⟨dx,fs,s _ _ e,f⟩,s _ _ e2⟩
def zcL (H:Hp)(kvs:QG):Prop:=∀(n:Int) (v:V),valV kvs (.inl n)=some v->∃t,Rep H t v/\Good t/\zE t=n
theorem zcL.keep {H H':Hp}{kvs:QG}(l:zcL H kvs)(s:Tups H H'):zcL H' kvs:=λn v e=>by obtain⟨t,r,g⟩:=l n v e;exact⟨t,r.keep s,g⟩
def zh1 (E:XK)(CC:Addr)(H:Hp)(t1 t2:Th)(v1 v2:V):Prop:=∀(H':Hp) (x:Addr),Same H H'->H' x=some (xdO x [("one",v1),("other",v2)])->E (.ref CC) (some x) H'
def zd7 (C:Addr):Sp:=λvs H Q _=>∃(a dx:Addr),vs=[.ref a]/\H a=some (.ins C dx [])/\∀d,H d=none->Q .non (upd (upd H d (.dK [])) a (.ins C dx [("laid",.ref d)]))
def zks (CC:Addr):Sp:=λvs H Q _=>∃(x:Addr) (v1 v2:V),vs=[.ref x,v1,v2]/\H x=some (exO x CC none true)/\
 ∀d,H d=none->d≠x->Q .non (upd (upd (upd H d (xdO d [("one",v1)])) x (exO x CC (some d) true)) d (xdO d [("one",v1),("other",v2)]))
def zeu (C CC:Addr):Sp:=λvs H Q E=>∃(a d:Addr) (kvs:QG) (n:Int) (t:Th) (v:V),vs=[.ref a,.int n,v]/\VOk H C a d kvs/\zcL H kvs/\Rep H t v/\Good t/\zE t=n/\
 ((∀t1 v1,valV kvs (.inl n)=some v1->Rep H t1 v1->t1=t)->Q .non H)/\
 (∀t1 v1,valV kvs (.inl n)=some v1->Rep H t1 v1->Good t1->zE t1=zE t->t1≠t->zh1 E CC H t1 t v1 v)
def zpR (C CC:Addr):Sp:=λvs H Q E=>∃(a d:Addr) (kvs:QG) (t:Th) (v:V),vs=[.ref a,v]/\VOk H C a d kvs/\zcL H kvs/\kvs.length<=1000000/\Rep H t v/\Good t/\
 (∀H',Same H H'->(∀t1 v1,valV kvs (.inl (zE t))=some v1->Rep H t1 v1->t1=t)->Q (.int (zE t)) (upd H' d (.dK (putK kvs (.inl (zE t)) v))))/\
 (∀t1 v1 H',Same H H'->valV kvs (.inl (zE t))=some v1->Rep H' t1 v1->Good t1->zE t1=zE t->t1≠t->zh1 E CC H' t1 t v1 v)
def ziU (C:Addr):Sp:=λvs H Q _=>∃(a d:Addr) (kvs:QG) (n:Int) (v:V),vs=[.ref a,.int n]/\VOk H C a d kvs/\valV kvs (.inl n)=some v/\Q v H
def zf8 (C CN:Addr):Sp:=λvs H Q E=>∃(a d:Addr) (kvs:QG) (n:Int),vs=[.ref a,.int n]/\VOk H C a d kvs/\(∀v,valV kvs (.inl n)=some v->Q v H)/\(valV kvs (.inl n)=none->E (.ref CN) none H)
theorem DRep.laidOk {H:Hp}{cs:QF}{kvs:QG}(r:DRep H cs kvs)(g:∀p∈cs,Good p.2/\zE p.2=p.1):zcL H kvs:=λn v e=>by obtain⟨t,e1,rv⟩:=r.back e;obtain⟨g1,g2⟩:=g _ (zhD e1);exact⟨t,rv,g1,g2⟩
theorem zmH (v1 v2:V):putF ("other" :Str) v2 [(("one" :Str),v1)]=[(("one" :Str),v1),(("other" :Str),v2)]:=by
 unfold putF;rw[if_neg (by decide)]
 rfl
theorem Rep.uniq {H:Hp}{t u:Th}{v:V}(r:Rep H t v):Rep H u v->t=u:=by
 induction r generalizing u with
 | non=>intro q;cases q;rfl
 | int i=>intro q;cases q;rfl
 | str x=>intro q;cases q;rfl
 | @tup a xs ts e l h ih=>
  intro q;cases q with
  | @tup _ ys us e' l' h'=>
   rw[e] at e';cases e';congr 1;apply List.ext_getElem?;intro i;by_cases hi:i < ts.length
   ·have h1:ts[i]? =some ts[i]:=List.getElem?_eq_getElem hi;have h2:us[i]? =some us[i]:=List.getElem?_eq_getElem (by omega);have h3:xs[i]? =some xs[i]:=List.getElem?_eq_getElem (by omega);rw[h1,h2,ih i _ _ h3 h1 (h' i _ _ h3 h2)]
   ·rw[List.getElem?_eq_none (by omega),List.getElem?_eq_none (by omega)]
section
variable {P:Program}{w:World}{K:QA}{mg:QB}{base:Heap}{C CC:Addr}{x:Str}
theorem zmM (D:Mkd K mg x C "Vault.__init__" zaq ["self"]) (c:Cls K C) (nl:zR K C "laid"):Mkr P w K mg base x C 1 ["self"] (zd7 C):=by
 refine D.ok (k:=0) zct (λvs H Q E h=>?_) (λf cdv A outer s H vs Q E hr h=>?_)
 ·obtain⟨a,dx,rfl,_⟩:=h;rfl
 obtain⟨a,dx,rfl,ea,q⟩:=h;refine⟨_,(zd (zhJ (pv 0) zgT (by rfl))),?_⟩;intro d hd;exact⟨_,rfl,a,C,dx,[],rfl,by rw[zl (zo ea hd)];exact ea,c,nl,by decide,q d hd⟩
theorem zni (D:XId K mg "Clash" CC "Clash.__init__" za5 ["self","one","other"]) (n1:zR K CC "one") (n2:zR K CC "other"):XI P w K mg base "Clash" CC 1 ["self","one","other"] (zks CC):=by
 have c:=D.cl;refine D.ok (k:=0) zeT (λvs H Q E h=>?_) (λf cdv A outer s H vs Q E hr h=>?_)
 ·obtain⟨x,v1,v2,rfl,_⟩:=h;rfl
 obtain⟨x,v1,v2,rfl,ex,q⟩:=h;refine⟨_,(zb (zp4 (pv 0) (pv 1) (by rfl))
 (zd (zpW (pv 0) (pv 2) (by rfl)))),?_⟩
 refine⟨_,rfl,_,rfl,x,CC,true,rfl,ex,c,n1,λd hd hdx=>?_⟩;refine⟨_,rfl,_,rfl,x,CC,true,d,[("one",v1)],rfl,zj,by rw[zl hdx];exact zj,hdx,c,n2,(show(1:Nat) < 1000 by decide),?_⟩;show Q .non (upd _ d (xdO d (putF "other" v2 [("one",v1)])));rw[zmH];exact q d hd hdx
theorem zho (D:Mdf K C "refuse_clash" "Vault.refuse_clash" zad ["self","number","thing"]) (zlf:XI P w K mg base "Clash" CC 1 ["self","one","other"] (zks CC)) (c:Cls K C) (nl:zR K C "laid"):
  Mt P w K mg base (CX1 P w) C "refuse_clash" 3 ["self","number","thing"] (zeu C CC):=by
 refine D.okX (k:=2) zdk (λvs H Q E h=>?_) (λf cdv A outer s H vs Q E hr h=>?_)
 ·obtain⟨a,d,kvs,n,t,v,rfl,_⟩:=h;rfl
 obtain⟨a,d,kvs,n,t,v,rfl,vo,lo,rt,gt,sn,q,qe⟩:=h;obtain⟨⟨dx,fs,eo,fl⟩,ed⟩:=vo;refine⟨_,(zd (zL (PW.pt (zin (zhU (znU (zck hr) (pv 1) (zaY (pv 0) (by rfl)))) (zfO (zB (zfQ hr) (zds (zck hr) (zaY (pv 0) (by rfl)) (pv 1) (λ_ _=>rfl)) (pv 2) (zA _)))))
 (zd (zgQ zge rfl (zrr zlf hr (by omega) (by rfl) (za (zds (zck hr) (zaY (pv 0) (by rfl)) (pv 1) (λ_ _=>rfl)) (za (pv 2) zc)))))
 zu)),?_⟩
 refine⟨_,rfl,_,rfl,a,C,dx,_,_,rfl,eo,c,nl,fl.la,d,_,rfl,DGet.k (k:=Sum.inl n) ed,_,rfl,?_⟩;cases ev:valV kvs (Sum.inl n) with
 | none=>exact ifF rfl (ifF rfl (q λt1 v1 e=>by rw[ev] at e;cases e))
 | some v1=>
  obtain⟨t1,r1,g1,s1⟩:=lo n v1 ev;have gd:=g1.dp;have dg:DGet H d (.int n) (some v1):=by rw[<-ev];exact DGet.k (k:=Sum.inl n) ed
  refine ifT rfl ?_;refine⟨_,rfl,a,C,dx,_,_,rfl,eo,c,nl,fl.la,_,rfl,d,v1,rfl,dg,_,rfl,t1,t,r1,rt,by omega,_,rfl,?_⟩;refine ifB (λcc=>?_) (λcc=>?_)
  ·have ne:t1≠t:=λz=>by rw[z,zaP] at cc;cases cc
   refine⟨_,rfl,a,C,dx,_,_,rfl,eo,c,nl,fl.la,_,rfl,d,v1,rfl,dg,_,rfl,szl (show 2<=1000 by decide),λx hx=>?_⟩;refine⟨x,v1,v,rfl,zj,λd' hd' hdx=>⟨rfl,?_⟩⟩;have hd2:H d'=none:=by rw[zl hdx] at hd';exact hd'
   refine⟨x,CC,some d',rfl,by rw[zl (Ne.symm hdx)];exact zj,zlf.cl.q,?_⟩;refine qe t1 v1 ev r1 g1 (s1.trans sn.symm) ne _ d' (λb o hb=>?_) ?_
   ·have b1:b≠x:=zo hb hx;have b2:b≠d':=zo hb hd2;rw[zbQ b1,zl b2,zl b1,zl b2,zl b1];exact hb
   ·rw[zbQ hdx];exact zj
  ·have eq:t1=t:=(za3 t1 t).mp (by cases z:eqT t1 t with | true=>rfl | false=>rw[z] at cc;cases cc);exact q λt2 v2 e r2=>by rw[ev] at e;cases e;exact(r2.uniq r1).trans eq
theorem zql (D:Mdf K C "lay" "Vault.lay" zcP ["self","thing"]) (zgW:Mt P w K mg base (CX1 P w) C "refuse_clash" 3 ["self","number","thing"] (zeu C CC)) (zcd:Fn P w K mg base "seal" 13 ["thing"] zeR) (c_K:Cls K C) (nl:zR K C "laid"):
  Mt P w K mg base (CX1 P w) C "lay" 14 ["self","thing"] (zpR C CC):=by
 refine D.okX (k:=13) zfm (λvs H Q E h=>?_) (λf cdv A outer s H vs Q E hr h=>?_)
 ·obtain⟨a,d,kvs,t,v,rfl,_⟩:=h;rfl
 obtain⟨a,d,kvs,t,v,rfl,vo,lo,hl,rt,gt,q,qe⟩:=h;have gd:=gt.dp;have gn:=gt.nd;refine⟨_,(zb (zq (i:=2) zfm.nd rfl (Or.inl rfl) (zF zcd hr (by omega) (by rfl) (za (pv 1) zc)))
 (zb (zaU (zb5 (pv 0) c_K zgW hr (by omega) zK (za (pv 2) (za (pv 1) zc))))
 (zb (zhP (zck hr) (zaY (pv 0) (by rfl)) (pv 2) (pv 1) (by rfl))
 (zd (zm (pv 2)))))),?_⟩
 refine⟨_,rfl,t,v,rfl,rt,gt.wf,by omega,by omega,λH1 s1=>?_⟩;have vo1:=vo.keep s1;obtain⟨⟨dx,fs,eo,fl⟩,ed⟩:=id vo1;have rt1:=rt.keep (Same.tups s1);refine⟨_,rfl,a,dx,_,rfl,eo,fl.n1,_,rfl,_,rfl,a,d,kvs,_,t,v,rfl,vo1,lo.keep (Same.tups s1),rt1,gt,rfl,λsame=>?_,λt1 v1 ev r1 g1 sn ne=>qe t1 v1 H1 s1 ev r1 g1 sn ne⟩;refine⟨_,rfl,_,rfl,a,C,dx,_,_,rfl,eo,c_K,nl,fl.la,_,rfl,d,_,rfl,DPut.k (k:=Sum.inl (zE t)) ed (Nat.lt_of_le_of_lt hl (by decide+kernel)),?_⟩;exact⟨_,rfl,q H1 s1 λt1 v1 e r=>same t1 v1 e (r.keep (Same.tups s1))⟩
theorem zlL (D:Mdf K C "thing" "Vault.thing" zbk ["self","number"]) (c:Cls K C) (nl:zR K C "laid"):Mt P w K mg base CX0 C "thing" 1 ["self","number"] (ziU C):=by
 refine D.ok (k:=0) zdC (λvs H Q E h=>?_) (λf cdv A outer s H vs Q E hr h=>?_)
 ·obtain⟨a,d,kvs,n,v,rfl,_⟩:=h;rfl
 obtain⟨a,d,kvs,n,v,rfl,⟨⟨dx,fs,eo,fl⟩,ed⟩,ev,q⟩:=h;have dg:DGet H d (.int n) (some v):=by rw[<-ev];exact DGet.k (k:=Sum.inl n) ed
 refine⟨_,(zb (zL (zhU (zhm (zck hr) (pv 1) (zaY (pv 0) (by rfl))))
 (zd zmA)
 zu)
 (zd (zm (zds (zck hr) (zaY (pv 0) (by rfl)) (pv 1) (λ_ _=>rfl))))),?_⟩
 refine⟨_,rfl,_,rfl,a,C,dx,_,_,rfl,eo,c,nl,fl.la,d,_,rfl,dg,_,rfl,ifF rfl ?_⟩;exact⟨_,rfl,a,C,dx,_,_,rfl,eo,c,nl,fl.la,_,rfl,d,v,rfl,dg,q⟩
theorem zlU {CN:Addr}(D:Mdf K C "thing" "Vault.thing" zbk ["self","number"]) (zhF:XP K mg "NoPaper" CN) (c:Cls K C) (nl:zR K C "laid"):Mt P w K mg base (CX1 P w) C "thing" 1 ["self","number"] (zf8 C CN):=by
 refine D.okX (k:=0) zdC (λvs H Q E h=>?_) (λf cdv A outer s H vs Q E hr h=>?_)
 ·obtain⟨a,d,kvs,n,rfl,_⟩:=h;rfl
 obtain⟨a,d,kvs,n,rfl,⟨⟨dx,fs,eo,fl⟩,ed⟩,q,qe⟩:=h;refine⟨_,(zb (zL (zhU (zhm (zck hr) (pv 1) (zaY (pv 0) (by rfl))))
 (zd (zgQ zge rfl (zpQ zhF (by rfl) (za zdH zc))))
 zu)
 (zd (zm (zds (zck hr) (zaY (pv 0) (by rfl)) (pv 1) (λ_ _=>rfl))))),?_⟩
 refine⟨_,rfl,_,rfl,a,C,dx,_,_,rfl,eo,c,nl,fl.la,d,_,rfl,DGet.k (k:=Sum.inl n) ed,_,rfl,?_⟩;cases ev:valV kvs (Sum.inl n) with
 | none=>refine ifT rfl ⟨szl (show 1<=1000 by decide),λe he=>⟨e,CN,none,rfl,zj,zhF.cl.q,?_⟩⟩;rw[zhQ he];exact qe ev
 | some v=>
  have dg:DGet H d (.int n) (some v):=by rw[<-ev];exact DGet.k (k:=Sum.inl n) ed
  refine ifF rfl ?_;exact⟨_,rfl,a,C,dx,_,_,rfl,eo,c,nl,fl.la,_,rfl,d,v,rfl,dg,q v ev⟩
end
end Pv
namespace Pv
open PySem L2
noncomputable def addT (cs:QF)(n:Int)(t:Th):List (Int ×Th):=match zD cs n with | none=>cs++ [(n,t)] | some _=>cs
def Fits (cs:QF)(n:Int)(t:Th):Prop:=zD cs n=none\/zD cs n=some t
structure GoodC (cs:QF):Prop where
 nd:(cs.map (·.1)).Nodup
 gd:∀p∈cs,Good p.2/\zE p.2=p.1
theorem zcp {cs:QF}{n:Int}{t:Th}(h:zD cs n=none):addT cs n t=cs++ [(n,t)]:=by unfold addT;rw[h]
theorem zcy {cs:QF}{n:Int}{t u:Th}(h:zD cs n=some u):addT cs n t=cs:=by unfold addT;rw[h]
theorem zgm (cs:QF)(n:Int)(t:Th):(addT cs n t).length<=cs.length+1:=by
 cases e:zD cs n with
 | none=>rw[zcp e,List.length_append];exact Jb _
 | some u=>rw[zcy e];omega
theorem DRep.add {H:Hp}{cs:QF}{kvs:QG}{n:Int}{t:Th}{v:V}(r:DRep H cs kvs)(h:Rep H t v)(f:Fits cs n t)(nd:(cs.map (·.1)).Nodup):DRep H (addT cs n t) (putK kvs (.inl n) v):=by
 rcases f with f | f
 ·rw[zcp f];exact r.put h f
 ·rw[zcy f];exact r.again h f nd
theorem GoodC.add {cs:QF}{n:Int}{t:Th}(g:GoodC cs)(gt:Good t)(sn:zE t=n):GoodC (addT cs n t):=by
 cases e:zD cs n with
 | some u=>rw[zcy e];exact g
 | none=>
  rw[zcp e];refine⟨?_,λp hp=>?_⟩
  ·rw[List.map_append,List.nodup_append];refine⟨g.nd,by simp,λa ha b hb=>?_⟩;cases Jq.mp hb;exact λz=>zjE e (by have z':a=n:=z;rw[<-z'];exact ha)
  ·rcases Jj.mp hp with h | h
   ·exact g.gd p h
   ·cases Jq.mp h;exact⟨gt,sn⟩
theorem GoodC.nil:GoodC []:=⟨List.nodup_nil,λp h=>by cases h⟩
theorem GoodC.dep {cs:QF}{n:Int}{t:Th}(g:GoodC cs)(e:zD cs n=some t):Good t/\zE t=n:=g.gd _ (zhD e)
theorem zlJ {cs:QF}{n m:Int}{t u:Th}(e:zD cs m=some u):zD (addT cs n t) m=some u:=by
 cases z:zD cs n with
 | some y=>rw[zcy z];exact e
 | none=>rw[zcp z,zdX,e]
theorem zfl {cs:QF}{n:Int}{t:Th}(f:Fits cs n t):zD (addT cs n t) n=some t:=by
 rcases f with f | f
 ·rw[zcp f,zdX,f];exact if_pos rfl
 ·rw[zcy f];exact f
theorem zcB {cs:QF}{n m:Int}{t u:Th}(e:zD (addT cs n t) m=some u):zD cs m=some u\/(m=n/\u=t):=by
 cases z:zD cs n with
 | some y=>rw[zcy z] at e;exact .inl e
 | none=>
  rw[zcp z,zdX] at e;cases y:zD cs m with
  | some w=>rw[y] at e;exact .inl e
  | none=>
   rw[y] at e;by_cases q:n=m
   ·have e':(if n=m then some t else none)=some u:=e;rw[if_pos q] at e';cases e';exact .inr ⟨q.symm,rfl⟩
   ·have e':(if n=m then some t else none)=some u:=e;rw[if_neg q] at e';cases e'
end Pv
namespace Pv
open PySem L2
theorem zl2 {a c:Th}(b:Th)(h:zf a c=true):zf a b=true\/zf b c=true:=by rw[<-zbp] at h;rw[<-zbp,<-zbp];exact zk9 _ _ _ h
theorem zaz {a b c:Th}(h1:zf a b=true)(h2:zf b c=true):zf a c=true:=by
 rcases zl2 c h1 with h | h
 ·exact h
 ·rw[zab h2] at h;cases h
theorem zby {a b:Th}(h:zf a b=false)(n:a≠b):zf b a=true:=by
 cases e:zf b a with
 | true=>rfl
 | false=>exact Ji (zhg h e) n
noncomputable def zc6 (t:Th):Int:=zE (.tup [.str ("rank" :Str),t])
noncomputable def zaF (t u:Th):Bool:=if zc6 t=zc6 u then zf t u else decide (zc6 u < zc6 t)
noncomputable abbrev zbx (k wo:Th)(l r c:Int):Th:=.tup [k,wo,.int l,.int r,.int c]
theorem zi1 (t:Th):1<=zE t/\zE t<=2305843009213693951:=by have:=zfs (zaZ t);unfold zE;omega
structure KeyT (t:Th):Prop where
 wf:Wf t
 dp:dep t<=3
 nd:nodes t<=10
 ne:t≠ .non
noncomputable instance decTh:DecidableEq Th:=λt u=>decidable_of_iff _ (za3 t u)
set_option genSizeOf true
inductive Tr where
 | nil:Tr
 | node (l:Tr) (k w:Th) (r:Tr):Tr
set_option genSizeOf false
namespace Tr
noncomputable def ps:Tr->List (Th ×Th)
 | nil=>[]
 | node l k w r=>l.ps++(k,w)::r.ps
noncomputable def root:Tr->Int
 | nil=>0
 | node l k w r=>zE (zbx k w l.root r.root (((l.ps++(k,w)::r.ps).length:Nat):Int))
noncomputable abbrev cnt (T:Tr):Nat:=T.ps.length
noncomputable def thing:Tr->Th
 | nil=>.non
 | node l k w r=>zbx k w l.root r.root (((l.ps++(k,w)::r.ps).length:Nat):Int)
def InV (cs:QF):Tr->Prop
 | nil=>True
 | node l k w r=>zD cs (node l k w r).root=some (node l k w r).thing/\l.InV cs/\r.InV cs
noncomputable def kid (x:Th):Tr->Tr
 | nil=>nil
 | node l k _ r=>if zf k x=true then r else l
noncomputable def down (x:Th):Nat->Tr->Tr
 | 0,T=>T
 | n+1,T=>down x n (T.kid x)
noncomputable def plug (x:Th):Nat->Tr->Tr->Tr
 | 0,_,S=>S
 | _+1,nil,_=>nil
 | n+1,node l k w r,S=>if zf k x=true then node l k w (plug x n r S) else node (plug x n l S) k w r
noncomputable def spl (x:Th):Nat->Tr->Tr ×Tr
 | 0,T=>(T,nil)
 | _+1,nil=>(nil,nil)
 | n+1,node l k w r=>if zf k x=true then(node l k w (spl x n r).1,(spl x n r).2) else((spl x n l).1,node (spl x n l).2 k w r)
noncomputable def wl (x:Th):Tr->Nat
 | nil=>0
 | node l k _ r=>if k=x then 1 else(if zf k x=true then r.wl x else l.wl x)+1
noncomputable def own (x:Th):Tr->Tr
 | nil=>nil
 | node l k w r=>if k=x then node l k w r else if zf k x=true then r.own x else l.own x
end Tr
open Tr
theorem zhd (l:Tr)(k w:Th)(r:Tr):(node l k w r).root=zE (node l k w r).thing:=rfl
theorem zaV {T:Tr}:T.root=0↔T=nil:=by
 cases T with
 | nil=>exact⟨λ_=>rfl,λ_=>rfl⟩
 | node l k w r=>refine⟨λh=>?_,λh=>by cases h⟩;have:=(zi1 (node l k w r).thing).1;rw[zhd] at h;omega
noncomputable abbrev _root_.JE:=@Int.le_refl
theorem zf5 (T:Tr):0<=T.root/\T.root<=2305843009213693951:=by
 cases T with
 | nil=>exact⟨JE 0,by decide⟩
 | node l k w r=>have:=zi1 (node l k w r).thing;rw[zhd];omega
theorem zJ (l:Tr)(k w:Th)(r:Tr):(node l k w r).cnt=l.cnt+r.cnt+1:=by show(l.ps++(k,w)::r.ps).length=_;rw[List.length_append,List.length_cons];show l.ps.length+(r.ps.length+1)=l.ps.length+r.ps.length+1;omega
def Sub (cs cs':QF):Prop:=∀n t,zD cs n=some t->zD cs' n=some t
theorem Sub.refl (cs:QF):Sub cs cs:=λ_ _ h=>h
theorem Sub.trans {a b c:QF}(h:Sub a b)(h':Sub b c):Sub a c:=λn t e=>h' n t (h n t e)
theorem InV.mono {cs cs':QF}(s:Sub cs cs'):∀{T:Tr},T.InV cs->T.InV cs'
 | nil,_=>trivial
 | node _ _ _ _,h=>⟨s _ _ h.1,InV.mono s h.2.1,InV.mono s h.2.2⟩
abbrev _root_.QH:=List (Th ×Th)
def Srt (ps:QH):Prop:=ps.Pairwise λp q=>zf p.1 q.1=true
theorem zce {l:Tr}{k w:Th}{r:Tr}(h:Srt (node l k w r).ps):Srt l.ps/\Srt r.ps/\(∀p∈l.ps,zf p.1 k=true)/\(∀p∈r.ps,zf k p.1=true):=by have h':Srt (l.ps++(k,w)::r.ps):=h;obtain⟨h1,h2,h3⟩:=List.pairwise_append.mp h';obtain⟨h4,h5⟩:=List.pairwise_cons.mp h2;exact⟨h1,h5,λp hp=>h3 p hp _ List.mem_cons_self,λp hp=>h4 p hp⟩
noncomputable def lo (ps:QH)(x:Th):List (Th ×Th):=ps.filter λp=>zf p.1 x
noncomputable def hi (ps:QH)(x:Th):List (Th ×Th):=ps.filter λp=>zf x p.1
noncomputable def hiE (ps:QH)(x:Th):List (Th ×Th):=ps.filter λp=>!zf p.1 x
noncomputable def insP (ps:QH)(x w:Th):List (Th ×Th):=lo ps x++(x,w)::hi ps x
theorem zdw (a b:QH)(x:Th):lo (a++b) x=lo a x++lo b x:=List.filter_append ..
theorem zeU (a b:QH)(x:Th):hi (a++b) x=hi a x++hi b x:=List.filter_append ..
theorem zjY (a b:QH)(x:Th):hiE (a++b) x=hiE a x++hiE b x:=List.filter_append ..
theorem zia {a:QH}{x:Th}(h:∀p∈a,zf p.1 x=true):lo a x=a:=List.filter_eq_self.mpr h
theorem znf {a:QH}{x:Th}(h:∀p∈a,zf x p.1=true):hi a x=a:=List.filter_eq_self.mpr h
theorem zkH {a:QH}{x:Th}(h:∀p∈a,zf p.1 x=false):hiE a x=a:=List.filter_eq_self.mpr λp hp=>by rw[h p hp];rfl
theorem zfR {a:QH}{x:Th}(h:∀p∈a,zf p.1 x=false):lo a x=[]:=List.filter_eq_nil_iff.mpr λp hp=>by rw[h p hp];exact Jh
theorem zk0 {a:QH}{x:Th}(h:∀p∈a,zf x p.1=false):hi a x=[]:=List.filter_eq_nil_iff.mpr λp hp=>by rw[h p hp];exact Jh
theorem ziW {a:QH}{x:Th}(h:∀p∈a,zf p.1 x=true):hiE a x=[]:=List.filter_eq_nil_iff.mpr λp hp=>by rw[h p hp];exact Jh
theorem zrk {p:Th ×Th}{a:QH}{x:Th}(h:zf p.1 x=true):lo (p::a) x=p::lo a x:=List.filter_cons_of_pos h
theorem znj {p:Th ×Th}{a:QH}{x:Th}(h:zf p.1 x=false):lo (p::a) x=lo a x:=List.filter_cons_of_neg (by rw[h];exact Jh)
theorem zrC {p:Th ×Th}{a:QH}{x:Th}(h:zf x p.1=false):hi (p::a) x=hi a x:=List.filter_cons_of_neg (by rw[h];exact Jh)
theorem znH {p:Th ×Th}{a:QH}{x:Th}(h:zf p.1 x=false):hiE (p::a) x=p::hiE a x:=List.filter_cons_of_pos (by rw[h];rfl)
theorem zqg {p:Th ×Th}{a:QH}{x:Th}(h:zf p.1 x=true):hiE (p::a) x=hiE a x:=List.filter_cons_of_neg (by rw[h];exact Jh)
theorem zfT {A M B:QH}{x w:Th}(hA:∀p∈A,zf p.1 x=true)(hB:∀p∈B,zf x p.1=true):insP (A++M++B) x w=A++insP M x w++B:=by unfold insP;rw[zdw,zdw,zeU,zeU,zia hA,znf hB,zk0 (a:=A) λp hp=>zab (hA p hp),zfR (a:=B) λp hp=>zab (hB p hp)];simp
theorem zhi {l r:QH}{k w w':Th}(hl:∀p∈l,zf p.1 k=true)(hr:∀p∈r,zf k p.1=true):insP (l++(k,w)::r) k w'=l++(k,w')::r:=by unfold insP;rw[zdw,zeU,zia hl,znj (zT k),zrC (zT k),znf hr,zfR (a:=r) λp hp=>zab (hr p hp),zk0 (a:=l) λp hp=>zab (hl p hp)];simp
theorem zqi {a:QH}{x:Th}(h:∀p∈a,p.1≠x):hi a x=hiE a x:=by
 unfold hi hiE;refine List.filter_congr λp hp=>?_;cases e:zf p.1 x with
 | true=>rw[zab e];rfl
 | false=>rw[zby e (h p hp)];rfl
def Up (x:Th):Nat->Tr->Prop
 | 0,_=>True
 | _+1,nil=>False
 | n+1,node l k _ r=>k≠x/\Up x n (if zf k x=true then r else l)
theorem zea {x:Th}:∀{n:Nat} {T:Tr},Srt T.ps->Up x n T->∃A B:List (Th ×Th),(∀S,(plug x n T S).ps=A++S.ps++B)/\T.ps=A++(down x n T).ps++B/\(∀p∈A,zf p.1 x=true)/\(∀p∈B,zf x p.1=true)
 | 0,T,_,_=>⟨[],[],λS=>(List.append_nil _).symm,(List.append_nil _).symm,λp h=>(nomatch h),λp h=>(nomatch h)⟩
 | n+1,nil,_,h=>h.elim
 | n+1,node l k w r,hs,h=>by
  obtain⟨h1,h2,h3,h4⟩:=zce hs;obtain⟨ne,h⟩:=h;by_cases c:zf k x=true
  ·rw[if_pos c] at h;obtain⟨A,B,e1,e2,e3,e4⟩:=zea h2 h;refine⟨l.ps++(k,w)::A,B,λS=>?_,?_,λp hp=>?_,e4⟩
   ·show(if zf k x=true then node l k w (plug x n r S) else node (plug x n l S) k w r).ps=_;rw[if_pos c];show l.ps++(k,w)::(plug x n r S).ps=_;rw[e1 S];simp
   ·show l.ps++(k,w)::r.ps=(l.ps++(k,w)::A)++(down x n (if zf k x=true then r else l)).ps++B;rw[if_pos c,e2];simp
   ·rcases Jj.mp hp with hp | hp
    ·exact zaz (h3 p hp) c
    ·rcases List.mem_cons.mp hp with rfl | hp
     ·exact c
     ·exact e3 p hp
  ·rw[if_neg c] at h;have c':zf k x=false:=by cases z:zf k x with | true=>exact Ji z c | false=>rfl
   have xk:=zby c' ne;obtain⟨A,B,e1,e2,e3,e4⟩:=zea h1 h;refine⟨A,B++(k,w)::r.ps,λS=>?_,?_,e3,λp hp=>?_⟩
   ·show(if zf k x=true then node l k w (plug x n r S) else node (plug x n l S) k w r).ps=_;rw[if_neg c];show(plug x n l S).ps++(k,w)::r.ps=_;rw[e1 S];simp
   ·show l.ps++(k,w)::r.ps=A++(down x n (if zf k x=true then r else l)).ps++(B++(k,w)::r.ps);rw[if_neg c,e2];simp
   ·rcases Jj.mp hp with hp | hp
    ·exact e4 p hp
    ·rcases List.mem_cons.mp hp with rfl | hp
     ·exact xk
     ·exact zaz xk (h4 p hp)
noncomputable abbrev _root_.JA:=@Nat.succ_lt_succ
noncomputable abbrev _root_.JF:=@Nat.zero_lt_succ
theorem zgx {x:Th}:∀{n:Nat} {T S:Tr},(∀m,m < n->down x m T≠nil)->(plug x n T S).cnt+(down x n T).cnt=T.cnt+S.cnt
 | 0,T,S,_=>Nat.add_comm _ _
 | n+1,nil,S,h=>Ji rfl (h 0 (JF _))
 | n+1,node l k w r,S,h=>by
  show(if zf k x=true then node l k w (plug x n r S) else node (plug x n l S) k w r).cnt+(down x n (if zf k x=true then r else l)).cnt=_;have h':∀m,m < n->down x m (if zf k x=true then r else l)≠nil:=λm hm=>h (m+1) (JA hm);by_cases c:zf k x=true
  ·rw[if_pos c] at h' ⊢;rw[if_pos c];have:=zgx (S:=S) h';rw[zJ,zJ];omega
  ·rw[if_neg c] at h' ⊢;rw[if_neg c];have:=zgx (S:=S) h';rw[zJ,zJ];omega
theorem up_down {x:Th}:∀{n:Nat} {T:Tr},Up x n T->∀m,m < n->down x m T≠nil
 | 0,_,_,m,hm=>Ji hm (Nat.not_lt_zero m)
 | n+1,nil,h,_,_=>h.elim
 | n+1,node l k w r,h,0,_=>λz=>by cases z
 | n+1,node l k w r,h,m+1,hm=>up_down (T:=if zf k x=true then r else l) h.2 m (Nat.lt_of_succ_lt_succ hm)
theorem zgH {x:Th}:∀(n m:Nat) (T:Tr),down x (n+m) T=down x m (down x n T)
 | 0,m,T=>by rw[Nat.zero_add];rfl
 | n+1,m,T=>by rw[Nat.succ_add];exact zgH n m (T.kid x)
theorem zh5 {x:Th}:∀{n m:Nat} {T:Tr},Up x n T->m<=n->Up x m T
 | _,0,_,_,_=>trivial
 | 0,m+1,_,_,h=>Ji h (Nat.not_succ_le_zero m)
 | n+1,m+1,nil,h,_=>h.elim
 | n+1,m+1,node l k w r,h,hm=>⟨h.1,zh5 h.2 (Nat.le_of_succ_le_succ hm)⟩
theorem zd8 {x:Th}:∀{T:Tr},own x T=nil->Up x (wl x T) T/\down x (wl x T) T=nil
 | nil,_=>⟨trivial,rfl⟩
 | node l k w r,h=>by
  unfold own at h;by_cases e:k=x
  ·rw[if_pos e] at h;cases h
  ·rw[if_neg e] at h;unfold wl;rw[if_neg e];by_cases c:zf k x=true
   ·rw[if_pos c] at h ⊢;obtain⟨a,b⟩:=zd8 h;refine⟨⟨e,?_⟩,?_⟩
    ·rw[if_pos c];exact a
    ·show down x _ (if zf k x=true then r else l)=nil;rw[if_pos c];exact b
   ·rw[if_neg c] at h ⊢;obtain⟨a,b⟩:=zd8 h;refine⟨⟨e,?_⟩,?_⟩
    ·rw[if_neg c];exact a
    ·show down x _ (if zf k x=true then r else l)=nil;rw[if_neg c];exact b
theorem zco {x:Th}:∀{T l' r':Tr} {k' w':Th},own x T=node l' k' w' r'->k'=x/\∃n,wl x T=n+1/\Up x n T/\down x n T=node l' k' w' r'
 | nil,_,_,_,_,h=>by cases h
 | node l k w r,l',r',k',w',h=>by
  unfold own at h;by_cases e:k=x
  ·rw[if_pos e] at h;cases h;unfold wl;rw[if_pos e];exact⟨e,0,rfl,trivial,rfl⟩
  ·rw[if_neg e] at h;unfold wl;rw[if_neg e];by_cases c:zf k x=true
   ·rw[if_pos c] at h ⊢;obtain⟨a,n,b,d,f⟩:=zco h;refine⟨a,n+1,by rw[b],⟨e,?_⟩,?_⟩
    ·rw[if_pos c];exact d
    ·show down x n (if zf k x=true then r else l)=_;rw[if_pos c];exact f
   ·rw[if_neg c] at h ⊢;obtain⟨a,n,b,d,f⟩:=zco h;refine⟨a,n+1,by rw[b],⟨e,?_⟩,?_⟩
    ·rw[if_neg c];exact d
    ·show down x n (if zf k x=true then r else l)=_;rw[if_neg c];exact f
theorem zo9 {x:Th}{T:Tr}:∀{n:Nat},Up x n T->wl x T=n+wl x (down x n T):=by
 intro n
 induction n generalizing T with
 | zero=>intro _;rw[Nat.zero_add];rfl
 | succ n ih=>
  intro h;cases T with
  | nil=>exact h.elim
  | node l k w r=>
   obtain⟨e,h⟩:=h;have:=ih h;show(if k=x then 1 else(if zf k x=true then r.wl x else l.wl x)+1)=n+1+wl x (down x n (if zf k x=true then r else l));rw[if_neg e];by_cases c:zf k x=true
   ·rw[if_pos c] at this ⊢;rw[if_pos c];omega
   ·rw[if_neg c] at this ⊢;rw[if_neg c];omega
theorem zkS {x:Th}:∀T:Tr,wl x T<=T.cnt
 | nil=>Jb _
 | node l k w r=>by
  rw[zJ];unfold wl;have h1:=zkS (x:=x) l;have h2:=zkS (x:=x) r;split
  ·omega
  ·split <;> omega
theorem zem {x:Th}:∀{n:Nat} {T:Tr},Srt T.ps->Srt (down x n T).ps
 | 0,_,h=>h
 | n+1,T,h=>zem (n:=n) (T:=T.kid x) (by
  cases T with
  | nil=>exact List.Pairwise.nil
  | node l k w r=>
   obtain⟨h1,h2,_,_⟩:=zce h;show Srt (if zf k x=true then r else l).ps;split
   ·exact h2
   ·exact h1)
theorem zj3 {x:Th}:∀{T:Tr},Srt T.ps->(spl x (wl x T) T).1.ps=lo T.ps x/\(spl x (wl x T) T).2.ps=hiE T.ps x
 | nil,_=>⟨rfl,rfl⟩
 | node l k w r,h=>by
  obtain⟨h1,h2,h3,h4⟩:=zce h;show(spl x (if k=x then 1 else(if zf k x=true then r.wl x else l.wl x)+1) (node l k w r)).1.ps=lo (l.ps++(k,w)::r.ps) x/\(spl x (if k=x then 1 else(if zf k x=true then r.wl x else l.wl x)+1) (node l k w r)).2.ps=hiE (l.ps++(k,w)::r.ps) x;rw[zdw,zjY];by_cases e:k=x
  ·subst e;rw[if_pos rfl];have c:=zT k;show(if zf k k=true then(node l k w r,nil) else(l,node nil k w r)).1.ps=_/\(if zf k k=true then(node l k w r,nil) else(l,node nil k w r)).2.ps=_;rw[c,zia h3,znj c,znH c,zfR λp hp=>zab (h4 p hp),ziW h3,zkH λp hp=>zab (h4 p hp)];exact⟨(List.append_nil _).symm,rfl⟩
  ·rw[if_neg e];by_cases c:zf k x=true
   ·obtain⟨i1,i2⟩:=zj3 (x:=x) h2;rw[if_pos c];show(if zf k x=true then(node l k w (spl x (r.wl x) r).1,(spl x (r.wl x) r).2) else _).1.ps=_/\(if zf k x=true then(node l k w (spl x (r.wl x) r).1,(spl x (r.wl x) r).2) else _).2.ps=_;rw[if_pos c,zia λp hp=>zaz (h3 p hp) c,zrk c,ziW λp hp=>zaz (h3 p hp) c,zqg c];refine⟨?_,by rw[List.nil_append];exact i2⟩;show l.ps++(k,w)::(spl x (r.wl x) r).1.ps=_;rw[i1]
   ·have c':zf k x=false:=by cases z:zf k x with | true=>exact Ji z c | false=>rfl
    have xk:=zby c' e;obtain⟨i1,i2⟩:=zj3 (x:=x) h1;rw[if_neg c];show(if zf k x=true then _ else((spl x (l.wl x) l).1,node (spl x (l.wl x) l).2 k w r)).1.ps=_/\(if zf k x=true then _ else((spl x (l.wl x) l).1,node (spl x (l.wl x) l).2 k w r)).2.ps=_;have hr:∀p∈r.ps,zf p.1 x=false:=λp hp=>zab (zaz xk (h4 p hp));rw[if_neg c,znj c',znH c',zfR hr,zkH hr];refine⟨by rw[List.append_nil];exact i1,?_⟩;show(spl x (l.wl x) l).2.ps++(k,w)::r.ps=_;rw[i2]
noncomputable def Tr.plc (x:Th):Tr->Nat
 | nil=>0
 | node l k _ r=>if zaF x k=true then 0 else(if zf k x=true then r.plc x else l.plc x)+1
theorem zid {x:Th}:∀{T:Tr},own x T=nil->plc x T<=wl x T
 | nil,_=>Jb _
 | node l k w r,h=>by
  unfold own at h;by_cases e:k=x
  ·rw[if_pos e] at h;cases h
  ·rw[if_neg e] at h;unfold plc wl;rw[if_neg e];split
   ·exact Nat.zero_le _
   ·by_cases c:zf k x=true
    ·rw[if_pos c] at h;rw[if_pos c,if_pos c];exact Nat.succ_le_succ (zid h)
    ·rw[if_neg c] at h;rw[if_neg c,if_neg c];exact Nat.succ_le_succ (zid h)
theorem znr {x:Th}:∀{n:Nat} {T:Tr},Up x n T->own x (down x n T)=own x T
 | 0,_,_=>rfl
 | n+1,nil,h=>h.elim
 | n+1,node l k w r,h=>by
  show own x (down x n (if zf k x=true then r else l))=own x (node l k w r);rw[znr h.2]
  conv=>rhs;unfold own
  rw[if_neg h.1];split <;> rfl
theorem zhW {x:Th}:∀{T:Tr},Srt T.ps->own x T=nil->∀p∈T.ps,p.1≠x
 | nil,_,_,p,hp=>by cases hp
 | node l k w r,hs,h,p,hp=>by
  obtain⟨h1,h2,h3,h4⟩:=zce hs;unfold own at h;by_cases e:k=x
  ·rw[if_pos e] at h;cases h
  ·rw[if_neg e] at h;by_cases c:zf k x=true
   ·rw[if_pos c] at h;rcases Jj.mp hp with hp | hp
    ·intro z;have:=zaz (h3 p hp) c;rw[z,zT] at this;cases this
    ·rcases List.mem_cons.mp hp with rfl | hp
     ·exact e
     ·exact zhW h2 h p hp
   ·rw[if_neg c] at h;have c':zf k x=false:=by cases z:zf k x with | true=>exact Ji z c | false=>rfl
    have xk:=zby c' e;rcases Jj.mp hp with hp | hp
    ·exact zhW h1 h p hp
    ·rcases List.mem_cons.mp hp with rfl | hp
     ·exact e
     ·intro z;have:=zaz xk (h4 p hp);rw[z,zT] at this;cases this
noncomputable def Tr.putT (x w:Th)(T:Tr):Tr:=
 match own x T with
 | node l _ _ r=>plug x (wl x T - 1) T (node l x w r)
 | nil=>plug x (plc x T) T (node (spl x (wl x T - plc x T) (down x (plc x T) T)).1 x w (spl x (wl x T - plc x T) (down x (plc x T) T)).2)
theorem zqy {x w:Th}{T:Tr}(hs:Srt T.ps):(putT x w T).ps=insP T.ps x w:=by
 unfold putT;cases h:own x T with
 | nil=>
  obtain⟨u,d⟩:=zd8 h;have hp:=zid h;have u':=zh5 u hp;obtain⟨A,B,e1,e2,e3,e4⟩:=zea hs u';have hd:=zo9 u';have ew:wl x T - plc x T=wl x (down x (plc x T) T):=by omega
  have s1:=zj3 (x:=x) (zem (x:=x) (n:=plc x T) hs);show(plug x (plc x T) T (node (spl x (wl x T - plc x T) (down x (plc x T) T)).1 x w (spl x (wl x T - plc x T) (down x (plc x T) T)).2)).ps=_;rw[ew,e1]
  conv=>rhs;rw[e2]
  rw[zfT e3 e4];show A++((spl x (wl x (down x (plc x T) T)) (down x (plc x T) T)).1.ps++(x,w)::(spl x (wl x (down x (plc x T) T)) (down x (plc x T) T)).2.ps)++B=_;rw[s1.1,s1.2];unfold insP;rw[zqi (zhW (zem hs) (by rw[znr u',h]))]
 | node l k' w' r=>
  obtain⟨rfl,n,ew,u,d⟩:=zco h;show(plug k' (wl k' T - 1) T (node l k' w r)).ps=_;rw[ew,Nat.add_sub_cancel];obtain⟨A,B,e1,e2,e3,e4⟩:=zea hs u;rw[e1]
  conv=>rhs;rw[e2]
  rw[zfT e3 e4,d];obtain⟨_,_,h3,h4⟩:=zce (d ▸ zem hs);show A++(l.ps++(k',w)::r.ps)++B=A++insP (l.ps++(k',w')::r.ps) k' w++B;rw[zhi h3 h4]
theorem zgI {ps:QH}(h:Srt ps)(f:Th ×Th->Bool):Srt (ps.filter f):=List.Pairwise.filter f h
theorem zpk {ps:QH}{x w:Th}(h:Srt ps):Srt (insP ps x w):=by
 refine List.pairwise_append.mpr ⟨zgI h _,List.pairwise_cons.mpr ⟨λp hp=>(Jv.mp hp).2,zgI h _⟩,λp hp q hq=>?_⟩;have a:=(Jv.mp hp).2;rcases List.mem_cons.mp hq with rfl | hq
 ·exact a
 ·exact zaz a (Jv.mp hq).2
theorem zoT {ps:QH}{x w:Th}:(insP ps x w).length<=ps.length+1:=by
 unfold insP lo hi;rw[List.length_append,List.length_cons];have:∀qs:List (Th ×Th),(qs.filter λp=>zf p.1 x).length+(qs.filter λp=>zf x p.1).length<=qs.length:=λqs=>by
  induction qs with
  | nil=>exact Jb _
  | cons q qs ih=>
   rw[List.filter_cons,List.filter_cons];cases a:zf q.1 x with
   | true=>rw[zab a];show(q::qs.filter _).length+(qs.filter _).length<=_;rw[List.length_cons,List.length_cons];omega
   | false=>
    show(qs.filter _).length+(if zf x q.1=true then q::qs.filter _ else qs.filter _).length<=_;split
    ·rw[List.length_cons,List.length_cons];omega
    ·rw[List.length_cons];omega
 have:=this ps;omega
theorem zou {ps:QH}{x w:Th}{p:Th ×Th}(h:p∈insP ps x w):p∈ps\/p=(x,w):=by
 rcases Jj.mp h with h | h
 ·exact .inl (Jv.mp h).1
 ·rcases List.mem_cons.mp h with h | h
  ·exact .inr h
  ·exact .inl (Jv.mp h).1
end Pv
namespace L2
open PySem PySem.Spec PyProof.Rows Px
structure ClsM (K:QA)(mg:QB)(x:Str)(V:Addr)(mc:Value)(m:Str)(f:Addr):Prop where
 mg:mg x=some (.ref V)
 sp:PySem.W.specialIn K (.ref V) "__getattribute__" =some (some (.builtin "type.__getattribute__"))
 rd:PySem.W.readsIn K V mc=true
 fc:PySem.W.findCls K (.ref V) mc m=some (.val (.ref f))
 kp:PySem.W.keepIn K (.ref f)=true
structure Kdf (K:QA)(mg:QB)(x m qual:Str)(st:Stmt)(ps:QP):Prop where
 ex:∃f fd V mc,Fun K m qual st f fd/\Binds K fd ps []/\ClsM K mg x V mc m f
structure Kfn (P:Program)(w:World)(K:QA)(mg:QB)(base:Heap)(x m:Str)(k:Nat)(ps:QP)(sp:Sp):Prop where
 ex:∃f fd V mc,FnOk P w K mg base CX0 k f fd ps sp/\Binds K fd ps []/\ClsM K mg x V mc m f
section
variable {P:Program}{w:World}{K:QA}{mg:QB}{base:Heap}{x m qual:Str}{st:Stmt}{ps N:QP}{sp:Sp}{k:Nat}
theorem Kdf.ok (D:Kdf K mg x m qual st ps)(S:zr N ps (zh st))(len:∀vs H Q E,sp vs H Q E->vs.length=ps.length)
  (hbody:∀(f:Addr) (cdv:Value) (A:Around) (outer:List Env) (s:Shared) (H:Hp) (vs:QQ) (Q:VK) (E:XK),Room k (A.deeper (envOfC qual (zh st) s.heap.objs.size f cdv))->sp vs H Q E->
   ∃t,PSs (cxOf CX0 P w K mg base N qual (zh st) f cdv A outer s H E).nox (zM st) t/\t {nx:=λ_ H'=>Q .non H',rt:=Q} (start N vs) H):Kfn P w K mg base x m (k+1) ps sp:=by
 obtain⟨f,fd,V,mc,F,b,me⟩:=D.ex;exact⟨f,fd,V,mc,F.ok S len (λcdv A outer s H vs Q E hr h=>hbody f cdv A outer s H vs Q E hr h),b,me⟩
variable {f V:Addr}{mc:Value}{od an:QM}{sl:QJ}{oc kV dc pm cd ct:Value}{h:Heap}
theorem zqx (X:K.In h)(G:h.Ns mainGlobals mg)(n:PySem.W.nsIn K mainGlobals x=some (some (.ref V)))(g:PySem.W.specialIn K (.ref V) "__getattribute__" =some (some (.builtin "type.__getattribute__"))) (rd:PySem.W.readsIn K V mc=true) (fc:PySem.W.findCls K (.ref V) mc m=some (.val (.ref f)))
  (l:K.lookup f=some ⟨oc,od,.func (PySem.W.fnOf m qual (zS st) (zM st) (zh st) .none kV dc pm an cd ct),sl⟩) (c:PySem.W.codeIn K cd qual=true) (k:PySem.W.keepIn K (.ref f)=true)
  (b:∀(kV doc pm:Value) (an:QM) (cdv ct:Value) (us:QN),us.length=ps.length->bindArgs (PySem.W.fnOf m qual (zS st) (zM st) (zh st) .none kV doc pm an cdv ct) ⟨us,[]⟩=pure (ps.zip us)):Kdf K mg x m qual st ps:=
 ⟨_,_,V,mc,zbP l c k,(zbP l c k).binds b,⟨PySem.W.mg_of X G n,g,rd,fc,k⟩⟩
end
section
variable {X:Cx}{x m:Str}{ps:QP}{sp:Sp}{k k':Nat}{e:Expr}{es:List Expr}{t:TA}{p pos apos:Pos}
theorem zqs {pl:Sem Bool}(F:Kfn X.prog X.w X.K X.mg X.base x m k ps sp)(hr:Room k' X.A)(hle:k<=k')(hg:Gl X x)(ha:PA X (e::es) t)(hd:(x==("__debug__" :Str))=false:=by decide)
  (hst:starEach (e::es) X.env=(false,eval e X.env)::starEach es X.env:=by rfl) (hpl:∀pos,(backTo pos (starEach es X.env)).any (·.1)=false:=by intro _;rfl)
  (ht:eval (.Call (.Attribute (.Name x p) m apos) (e::es) [] pos) X.env=(do
   let ov<-eval (.Name x p) X.env
   standAt apos.atName
   let (f,first) <-holding [ov] (getMethod ov m pl)
   callWith pos f first (backTo pos (starEach (e::es) X.env)) (backToKw pos (keywordEach [] X.env))):=by rfl):
  PE X (.Call (.Attribute (.Name x p) m apos) (e::es) [] pos) (zkL sp [] E0 t):=by
 obtain⟨f,fd,V,mc,a,b,M⟩:=F.ex;intro pins s σ H Q I h;refine PySem.W.methodCall_KW (pl:=pl) (thn (zw (v:=.ref V) hg M.mg rfl hd pins s σ H (λv H1=>v=.ref V/\H1=H) I ⟨rfl,rfl⟩) λu s1 ⟨v,H1,I1,r1,e1,e2⟩=>?_) ht;subst e1 e2;obtain rfl:u=Value.ref V:=r1;refine PySem.W.method_cls I1.kIn M.sp (PySem.W.cls_value I1.kIn M.rd M.fc rfl ?_);have I2:=I1.tok (s1.toks+1);refine PySem.W.callWith_K (first:=[]) (h₀:=X.base) I.ok.mod.kin M.kp (thn (ha pos pins _ σ H1 _ I2 h) λus s2 ⟨vs,H2,I3,r,q2⟩=>⟨I3.kIn,?_⟩) hst (hpl _);exact zik (us:=us) (vs:=vs) a (hr.mono hle) b .nil zcx I3 r q2
end
end L2
namespace L2
open PySem PySem.Spec PyProof.Rows
section
variable {X:Cx}{x x2:Str}{scope:Scope}{pins:QE}{σ:St}{H:Hp}{s:Shared}
variable {iter elt:Expr}{ifs:List Expr}{px px2 tpos pos:Pos}{kt:Nat}{wi:TI}{tt:TT}{te:TE}
end
end L2
namespace L2
open PySem PySem.Spec PyProof.Rows
end L2
namespace L2
open PySem PySem.Spec PyProof.Rows
structure PEw (X:Cx)(e:Expr)(t:TE):Prop where
 h:PE X e t
structure PAw (X:Cx)(es:List Expr)(t:TA):Prop where
 h:PA X es t
structure PPw (X:Cx)(pos:Pos)(keys:List (Option Expr))(values:List Expr)(trs:List (TE ×TE)):Prop where
 h:PPs X pos keys values trs
structure PSw (X:Cx)(st:Stmt)(t:TS):Prop where
 h:PS X st t
structure PSq (X:Cx)(st:List Stmt)(t:TS):Prop where
 h:PSs X st t
section
variable {X:Cx}
end
end L2
namespace L2
open PySem PySem.Spec PyProof.Rows
section
variable {X:Cx}{pins:QE}{σ:St}{H:Hp}{s:Shared}{d:Addr}{kvs:QG}{o:Obj}
end
section
variable {X:Cx}{tg:Expr}
end
end L2
namespace L2
open PySem PySem.Spec PyProof.Rows PySem.W
section
variable {P:Program}{w:World}{A:Around}{E:QC}{s:Shared}{R:Result->Shared->Prop}{I l S:Addr}{items:Array Value}
end
section
variable {P:Program}{w:World}{A:Around}{E:QC}{s:Shared}{I l:Addr}{items:Array Value}
end
section
variable {X:Cx}{e:Expr}{te:TE}{p1 p2 q1 q2:Pos}
end
end L2
namespace L2
open PySem PySem.Spec PyProof.Rows PySem.W
noncomputable def Itv (K:QA)(p:Addr)(xs:QQ):It:=
 ⟨λn H=>SqL K H p xs/\n < xs.length,λn H v H'=>H'=H/\xs.reverse[n]? =some v,λn H=>SqL K H p xs/\xs.length<=n⟩
theorem zmS {P:Program}{w:World}{K:QA}{tg:Expr}{xs:QQ}(p it:Addr):Turn P w K tg (Itv K p xs) [it] it (λi h=>i<=xs.length/\h.IsRevIter it p ((xs.length:Int) - 1 - (i:Nat))) where
 mem:=by simp
 obj:=λi h st b hb=>by
  have e:b=it:=by simpa using hb
  subst e;obtain⟨_,o,e,c,d⟩:=st;exact⟨o,e,λv z=>by rw[d] at z;cases z⟩
 keep:=λi h h' st k=>⟨st.1,st.2.at λo e=>k it (by simp) o e⟩
 item:=by
  intro X hP hw hK hc i pins s σ H E I hf st hg;subst hP hw hK;obtain⟨hq,hi⟩:=hg;obtain⟨_,st⟩:=st;obtain⟨its,rv,p',hz⟩:=I.list hq;have hn:xs.length - 1 - i < xs.length:=by omega
  have hx:xs[xs.length - 1 - i]? =some xs[xs.length - 1 - i]:=List.getElem?_eq_getElem hn;obtain⟨u,hu,ru⟩:=rv.get hx;obtain⟨f0,f1,f2,f3,f4,f5⟩:=hf it (by simp);have en:(xs.length:Int) - 1 - (i:Nat)=((xs.length - 1 - i:Nat):Int):=by omega
  rw[en] at st;refine wpAny_pyNext_rev_item st p'.isList (x:=u) (by simpa using hu) λh' st' sb=>?_;have I1:Inv X pins σ H {s with heap:=h'}:=I.turned (t':=s.toks) (λb o hb e=>(sb.2 b hb).trans e) f0 f1 f3 f4 f5;obtain⟨o,e,c,d⟩:=id st';have en2:((xs.length - 1 - i:Nat):Int) - 1=(xs.length:Int) - 1 - ((i+1:Nat):Int):=by omega
  rw[en2] at st';exact⟨u,rfl,zhh (s:={s with heap:=h'}) e c d (by decide) ⟨_,H,I1,ru,⟨rfl,by rw[List.getElem?_reverse hi];exact hx⟩,⟨hi,st'⟩,λb hb=>(hf b hb).1⟩⟩
 done:=by
  intro X hP hw hK hc i pins s σ H E I hf st hg;subst hP hw hK;obtain⟨hq,hx⟩:=hg;obtain⟨hi,st⟩:=st;obtain⟨f0,f1,f2,f3,f4,f5⟩:=hf it (by simp);have en:(xs.length:Int) - 1 - (i:Nat)= -1:=by omega
  rw[en] at st;exact wpAny_pyNext_rev_end (I.ok.hd hc) st λh' eb=>⟨rfl,I.turned (t':=s.toks) (λb o hb e=>eb b o hb e) f0 f1 f3 f4 f5⟩
 self:=λ_ _ _ _ _ st h=>wpAny_pyIter_revIter st.2 h
section
variable {X:Cx}
def iRev (K:QA)(te:TE):TI:=fun σ H R=>te σ H λx H1=>∃(p:Addr) (xs:QQ),x=.ref p/\SqL K H1 p xs/\R (Itv K p xs) H1
theorem zjI {tg a:Expr}{te:TE}{p pos:Pos}(hg:Gl X "reversed") (hm:X.mg "reversed" =none) (he:PE X a te) (hs:starEach [a] X.env=[(false,eval a X.env)]:=by rfl):
  PI X tg (.Call (.Name "reversed" p) [a] [] pos) (iRev X.K te):=by
 intro pins s σ H R I h;refine wpAny_Call_Name_kw (zcK I hg hm (show bootBuiltins "reversed" =some (.type "reversed") from by rfl) ?_ (by decide) (by decide));refine PyProof.Rows.callWith_type1 ?_ hs rfl;rw[hs];show wpAny _ _ (spliced ((false,eval a X.env)::[])) _ _ s;refine Calls.spliced_cons (thn (he pins s σ H _ I h) λu t1 ⟨x,H1,I1,r1,p,ys,ex,hq,q⟩=>Calls.spliced_nil ?_);subst ex;cases (show u=Value.ref p from r1);obtain⟨its,rv,pl,hz⟩:=I1.list hq;have hlen:=rv.length;refine call_reversed_list pl.isList ?_;have hri:(t1.heap.push (revObj p ((its.toArray.size:Int) - 1))).IsRevIter t1.heap.objs.size p ((ys.length:Int) - 1 - ((0:Nat):Int)):=⟨_,Heap.get?_push_size _ rfl,rfl,by rw[List.size_toArray,<-hlen];simp[revObj]⟩;refine wpAny_pyIter_revIter (s:={t1 with heap:=t1.heap.push (revObj p ((its.toArray.size:Int) - 1))}) hri ?_;refine⟨t1.heap.objs.size,[t1.heap.objs.size],_,_,H1,rfl,I1.kept (t':=t1.toks) λb o e=>Heap.get?_push_of_some _ e,zmS p _,⟨Nat.zero_le _,hri⟩,λb hb=>?_,q⟩;have e:b=t1.heap.objs.size:=by simpa using hb
 subst e;exact I1.fpOk (Jb _) (I1.hok.fresh (Jb _))
theorem zh9 {K:QA}{p:Addr}{xs:QQ}{g:TG}{tb:TS}{D:Ends}{σ:St}{H:Hp}(Pv:Nat->St->Hp->Prop)(h0:Pv 0 σ H)(hl:∀i σ H,Pv i σ H->SqL K H p xs)
  (hs:∀i x σ H,i < xs.length->xs.reverse[i]? =some x->Pv i σ H->g x σ H fun σ2 H2=>tb {D with nx:=Pv (i+1),ct:=Pv (i+1),bk:=D.nx} σ2 H2) (hd:∀σ H,Pv xs.length σ H->D.nx σ H):
  ∃W:Nat->Nat->St->Hp->Prop,(∃m,W 0 m σ H)/\∀i m σ H,W i m σ H->
   ((Itv K p xs).stop i H/\D.nx σ H)\/((Itv K p xs).go i H/\∃N:St->Hp->Prop,(∀σ' H',N σ' H'->∃m',m' < m/\W (i+1) m' σ' H')/\∀x H',(Itv K p xs).yld i H x H'->g x σ H' fun σ2 H2=>tb {D with nx:=N,ct:=N,bk:=D.nx} σ2 H2):=by
 refine⟨λi m σ H=>m=xs.length - i/\i<=xs.length/\Pv i σ H,⟨_,rfl,Nat.zero_le _,h0⟩,?_⟩;rintro i m σ H ⟨rfl,hi,p⟩;have q:=hl i σ H p;by_cases hlt:i < xs.length
 ·refine .inr ⟨⟨q,hlt⟩,Pv (i+1),fun σ' H' p'=>⟨_,by omega,rfl,hlt,p'⟩,λx H' y=>?_⟩;obtain⟨rfl,e1⟩:=y;exact hs i x σ _ hlt e1 p
 ·have e:i=xs.length:=by omega
  subst e;exact .inl ⟨⟨q,Jb _⟩,hd σ H p⟩
end
end L2
namespace Pv
open PySem L2
noncomputable abbrev zfa:Stmt:=top 10
theorem zj8:zr ["value"] ["value"] (zh zfa):=L2.fsc (by decide+kernel)
noncomputable abbrev zgD:Stmt:=top 24
theorem zl1:zr ["thing"] ["thing"] (zh zgD):=L2.fsc (by decide+kernel)
noncomputable abbrev zgv:Stmt:=top 23
theorem zlS:zr ["thing"] ["thing"] (zh zgv):=L2.fsc (by decide+kernel)
noncomputable abbrev zbr:Stmt:=top 22
theorem zc5:zr ["vault","root","count","node"] ["vault","root","count"] (zh zbr):=L2.fsc (by decide+kernel)
noncomputable abbrev zbs:Stmt:=top 26
theorem zgr:zr ["vault","root","count"] ["vault","root","count"] (zh zbs):=L2.fsc (by decide+kernel)
noncomputable abbrev ssize:Stmt:=top 25
theorem zp7:zr ["vault","root"] ["vault","root"] (zh ssize):=L2.fsc (by decide+kernel)
noncomputable abbrev znI:Stmt:=top 27
theorem zqw:zr ["key"] ["key"] (zh znI):=L2.fsc (by decide+kernel)
noncomputable abbrev zjJ:Stmt:=top 28
theorem zh7:zr ["key","other","mine","its"] ["key","other"] (zh zjJ):=L2.fsc (by decide+kernel)
open Tr
theorem Mt.imp {P:Program}{w:World}{K:QA}{mg:QB}{base:Heap}{CX:CXT}{C:Addr}{m:Str}{k:Nat}{ps:QP}{sp sp':Sp}(F:Mt P w K mg base CX C m k ps sp)(h:∀vs H Q E,sp' vs H Q E->sp vs H Q E):Mt P w K mg base CX C m k ps sp':=by obtain⟨f,fd,a,b⟩:=F.ex;exact⟨f,fd,a.imp h,b⟩
structure VS (H:Hp)(C a d:Addr)(cs:QF):Prop where
 vo:∃kv,VOk H C a d kv/\DRep H cs kv
 gc:GoodC cs
theorem VS.same {H H':Hp}{C a d:Addr}{cs:QF}(v:VS H C a d cs)(s:Same H H'):VS H' C a d cs:=by obtain⟨kv,vo,dr⟩:=v.vo;exact⟨⟨kv,vo.keep s,dr.keep (Same.tups s)⟩,v.gc⟩
def Cl (CC:Addr)(E:XK):Prop:=∀(t1 t2:Th) (v1 v2:V) (H:Hp) (x:Addr),Rep H t1 v1->Rep H t2 v2->Good t1->Good t2->t1≠t2->zE t1=zE t2->H x=some (xdO x [("one",v1),("other",v2)])->E (.ref CC) (some x) H
def zep (C:Addr):Sp:=λvs H Q _=>∃(a d:Addr) (cs:QF) (n:Int) (t:Th),vs=[.ref a,.int n]/\VS H C a d cs/\zD cs n=some t/\∀v,Rep H t v->Q v H
theorem zlQ {P:Program}{w:World}{K:QA}{mg:QB}{base:Heap}{C:Addr}(M:Mt P w K mg base CX0 C "thing" 1 ["self","number"] (ziU C)):Mt P w K mg base CX0 C "thing" 1 ["self","number"] (zep C):=Mt.imp M λvs H Q E h=>by obtain⟨a,d,cs,n,t,rfl,vs,lt,q⟩:=h;obtain⟨kv,vo,dr⟩:=vs.vo;obtain⟨v,ev,rv⟩:=dr.some lt;exact⟨a,d,kv,n,v,rfl,vo,ev,q v rv⟩
structure NodeOk (k wo:Th)(l r c:Int):Prop where
 k0:k≠ .non
 w0:wo≠ .non
 l0:0<=l
 r0:0<=r
 c1:1<=c
 c2:c<=300
structure TOk (cs:QF)(T:Tr):Prop where
 iv:T.InV cs
 ky:∀p∈T.ps,KeyT p.1/\KeyT p.2
 ct:T.cnt<=300
theorem TOk.mono {cs cs':QF}{T:Tr}(t:TOk cs T)(s:Sub cs cs'):TOk cs' T:=⟨InV.mono s t.iv,t.ky,t.ct⟩
theorem TOk.nil {cs:QF}:TOk cs Tr.nil:=⟨trivial,λp h=>(nomatch h),Nat.zero_le _⟩
theorem TOk.l {cs:QF}{l r:Tr}{k w:Th}(t:TOk cs (node l k w r)):TOk cs l:=⟨t.iv.2.1,λp h=>t.ky p (Jk _ h),by have:=t.ct;rw[zJ] at this;omega⟩
theorem TOk.r {cs:QF}{l r:Tr}{k w:Th}(t:TOk cs (node l k w r)):TOk cs r:=⟨t.iv.2.2,λp h=>t.ky p (Jf _ (Jl _ h)),by have:=t.ct;rw[zJ] at this;omega⟩
theorem TOk.kw {cs:QF}{l r:Tr}{k w:Th}(t:TOk cs (node l k w r)):KeyT k/\KeyT w:=t.ky (k,w) (Jf _ List.mem_cons_self)
theorem TOk.kid {cs:QF}{T:Tr}{x:Th}(t:TOk cs T):TOk cs (T.kid x):=by
 cases T with
 | nil=>exact .nil
 | node l k w r=>
  show TOk cs (if zf k x=true then r else l);split
  ·exact t.r
  ·exact t.l
theorem TOk.down {cs:QF}{x:Th}:∀{n:Nat} {T:Tr},TOk cs T->TOk cs (down x n T)
 | 0,_,t=>t
 | n+1,_,t=>TOk.down (n:=n) t.kid
theorem KeyT.good {t:Th}(k:KeyT t):Good t:=⟨k.wf,Jn k.dp (by decide),Jn k.nd (by decide)⟩
theorem zlF {k wo:Th}{l r c:Int}(hk:KeyT k)(hw:KeyT wo)(l0:0<=l)(l1:l<=10 ^ 30)(r0:0<=r)(r1:r<=10 ^ 30)(c0:1<=c)(c1:c<=300):NodeOk k wo l r c/\Good (zbx k wo l r c):=by
 refine⟨⟨hk.ne,hw.ne,l0,r0,c0,c1⟩,⟨⟨by show(5:Nat)<=40;decide,hk.wf,hw.wf,⟨by omega,l1⟩,⟨by omega,r1⟩,⟨by omega,by omega⟩,trivial⟩,?_,?_⟩⟩
 ·have h1:=hk.dp;have h2:=hw.dp;show max (dep k) (max (dep wo) (max 0 (max 0 (max 0 0))))+1<=8;omega
 ·have h1:=hk.nd;have h2:=hw.nd;show 1+(nodes k+(nodes wo+(1+(1+(1+0)))))<=80;omega
theorem zbt {l r:Tr}{k w:Th}(hk:KeyT k)(hw:KeyT w)(h:(node l k w r).cnt<=300):NodeOk k w l.root r.root (((l.ps++(k,w)::r.ps).length:Nat):Int)/\Good (node l k w r).thing:=by have h1:=zf5 l;have h2:=zf5 r;have h3:(l.ps++(k,w)::r.ps).length=(node l k w r).cnt:=rfl;have h4:=zJ l k w r;exact zlF hk hw h1.1 (by omega) h2.1 (by omega) (by omega) (by omega)
def znl:Sp:=λvs H Q _=>∃(t:Th) (v:V),vs=[v]/\Rep H t v/\Good t/\∀H',Same H H'->Q (.int (zc6 t)) H'
def zfL:Sp:=λvs H Q _=>∃(t u:Th) (v w:V),vs=[v,w]/\Rep H t v/\Rep H u w/\Good t/\Good u/\∀H',Same H H'->Q (.bl (zaF t u)) H'
theorem zmi {t:Th}(g:Good t):Wf (.tup [.str ("rank" :Str),t])/\dep (.tup [.str ("rank" :Str),t]) < 10/\nodes (.tup [.str ("rank" :Str),t])<=100:=by
 have h1:=g.dp;have h2:=g.nd;refine⟨⟨by show(2:Nat)<=40;decide,⟨by decide+kernel,by decide+kernel⟩,g.wf,trivial⟩,?_,?_⟩
 ·show max 0 (max (dep t) 0)+1 < 10;omega
 ·show 1+(1+(nodes t+0))<=100;omega
theorem zO {H:Hp}{k wo:Th}{l r c:Int}{v:V}(rep:Rep H (zbx k wo l r c) v):∃a vk vw,v=.ref a/\H a=some (.tup [vk,vw,.int l,.int r,.int c])/\Rep H k vk/\Rep H wo vw:=by
 obtain⟨a,xs,e,ea,r1⟩:=rep.list;cases r1 with
 | cons h1 r2=>
 cases r2 with
 | cons h2 r3=>
 cases r3 with
 | cons h3 r4=>
 cases r4 with
 | cons h4 r5=>
 cases r5 with
 | cons h5 r6=>
 cases r6 with
 | nil=>
 cases h3;cases h4;cases h5;exact⟨a,_,_,e,ea,h1,h2⟩
section
variable {P:Program}{w:World}{K:QA}{mg:QB}{base:Heap}{C CC:Addr}{x:Str}{t1 t2 t3 t4 t5 t6 t7:Tok}
theorem zoz (D:Dfn K mg "rank" znI ["key"]) (zcd:Fn P w K mg base "seal" 13 ["thing"] zeR):Fn P w K mg base "rank" 14 ["key"] znl:=by
 refine D.ok (k:=13) zqw (λvs H Q E h=>?_) (λf cdv A outer s H vs Q E hr h=>?_)
 ·obtain⟨t,v,rfl,_⟩:=h;rfl
 obtain⟨t,v,rfl,rt,gt,q⟩:=h;obtain⟨g1,g2,g3⟩:=zmi gt;refine⟨_,(zd (zm (zF zcd hr (by omega) (by rfl) (za (zau (za zdH (za (pv 0) zc))) zc)))),?_⟩;refine⟨_,rfl,szl (show 2<=1000 by decide),λp hp=>?_⟩;exact⟨_,_,rfl,(RepL.cons (.str _) (.cons rt .nil)).new hp,g1,g2,g3,λH' s'=>q H' ((zk (Same.refl H) hp).trans s')⟩
theorem znq (D:Dfn K mg "above" zjJ ["key","other"]) (zob:Fn P w K mg base "rank" 14 ["key"] znl) (zbl:Fn P w K mg base "ahead" 20 ["one","other"] (zcD 9)):Fn P w K mg base "above" 21 ["key","other"] zfL:=by
 refine D.ok (k:=20) zh7 (λvs H Q E h=>?_) (λf cdv A outer s H vs Q E hr h=>?_)
 ·obtain⟨t,u,v,w,rfl,_⟩:=h;rfl
 obtain⟨t,u,v,w,rfl,rt,ru,gt,gu,q⟩:=h;refine⟨_,(zb (zq (i:=2) zh7.nd rfl (Or.inl rfl) (zF zob hr (by omega) (by rfl) (za (pv 0) zc)))
 (zb (zq (i:=3) zh7.nd rfl (Or.inl rfl) (zF zob hr (by omega) (by rfl) (za (pv 1) zc)))
 (zb (zL (zB zcr (pv 2) (pv 3) (zA _))
 (zd (zm (zax zmW (pv 2) (pv 3) (zA _))))
 zu)
 (zd (zm (zF zbl hr (by omega) (by rfl) (za (pv 0) (za (pv 1) zc)))))))),?_⟩
 refine⟨_,rfl,t,v,rfl,rt,gt,λH1 s1=>?_⟩;refine⟨_,rfl,u,w,rfl,ru.keep (Same.tups s1),gu,λH2 s2=>?_⟩;have s12:=s1.trans s2;have gd:=gt.dp;refine⟨_,rfl,_,rfl,rfl,_,rfl,?_⟩;rw[zaN];refine ifB (λc=>?_) (λc=>?_)
 ·have ne:zc6 t≠zc6 u:=λz=>by rw[decide_eq_true z] at c;cases c
  refine⟨_,rfl,_,rfl,_,_,rfl,rfl,?_⟩;have:=q H2 s12;unfold zaF at this;rw[if_neg ne] at this;exact this
 ·have eq:zc6 t=zc6 u:=by
   by_cases z:zc6 t=zc6 u
   ·exact z
   ·rw[Jd z] at c;cases c
  refine⟨_,rfl,_,rfl,t,u,v,w,rfl,rt.keep (Same.tups s12),ru.keep (Same.tups s12),by omega,by omega,λH3 s3=>?_⟩;have:=q H3 (s12.trans s3);unfold zaF at this;rw[if_pos eq] at this;exact this
end
end Pv
namespace Pv
open PySem L2
theorem zdq {H:Hp}{t:Th}{v:V}(r:Rep H t v):decide (v=V.non)=decide (t=.non):=by
 cases r with
 | non=>rfl
 | int i=>exact(Jd (by intro z;cases z)).trans (Jd (by intro z;cases z)).symm
 | str x=>exact(Jd (by intro z;cases z)).trans (Jd (by intro z;cases z)).symm
 | tup e l h=>exact(Jd (by intro z;cases z)).trans (Jd (by intro z;cases z)).symm
structure Nd where
 k:Th
 w:Th
 l:Int
 r:Int
 c:Int
noncomputable abbrev Nd.th (n:Nd):Th:=zbx n.k n.w n.l n.r n.c
noncomputable def isW:Th->Bool
 | .int _=>true
 | _=>false
noncomputable def isR:Th->Bool
 | .int i=>decide (0<=i)
 | _=>false
noncomputable def zmY:Th->Bool
 | .int i=>decide (1<=i) && decide (i<=300)
 | _=>false
noncomputable def isN:Th->Bool
 | .tup [k,w,l,r,c]=>!decide (k=.non) && (!decide (w=.non) && (isR l && (isR r && zmY c)))
 | _=>false
noncomputable def ndOf:Th->Option Nd
 | .tup [k,w,.int l,.int r,.int c]=>if isN (.tup [k,w,.int l,.int r,.int c])=true then some ⟨k,w,l,r,c⟩ else none
 | _=>none
theorem zk7 {ts:List Th}(h:ts.length≠5):isN (.tup ts)=false:=by
 match ts,h with
 | [],_=>rfl
 | [_],_=>rfl
 | [_,_],_=>rfl
 | [_,_,_],_=>rfl
 | [_,_,_,_],_=>rfl
 | [_,_,_,_,_],h=>exact Ji rfl h
 | _::_::_::_::_::_::_,_=>rfl
theorem zp9 {nd:Nd}(h:NodeOk nd.k nd.w nd.l nd.r nd.c):isN nd.th=true:=by
 show(!decide (nd.k=.non) && (!decide (nd.w=.non) && (decide (0<=nd.l) && (decide (0<=nd.r) && (decide (1<=nd.c) && decide (nd.c<=300))))))=true;rw[Jd h.k0,Jd h.w0,decide_eq_true h.l0,decide_eq_true h.r0,decide_eq_true h.c1,decide_eq_true h.c2]
 rfl
theorem zqk {nd:Nd}(h:isN nd.th=true):NodeOk nd.k nd.w nd.l nd.r nd.c:=by have h':(!decide (nd.k=.non) && (!decide (nd.w=.non) && (decide (0<=nd.l) && (decide (0<=nd.r) && (decide (1<=nd.c) && decide (nd.c<=300))))))=true:=h;simp only[Bool.and_eq_true,Bool.not_eq_true',decide_eq_false_iff_not,decide_eq_true_eq] at h';obtain⟨a,b,c,d,e,f⟩:=h';exact⟨a,b,c,d,e,f⟩
theorem zkX {nd:Nd}(h:isN nd.th=true):ndOf nd.th=some nd:=by show(if isN nd.th=true then some nd else none)=some nd;rw[if_pos h]
theorem zkY {t:Th}(h:isR t=true):∃i,t=.int i:=by
 cases t with
 | int i=>exact⟨i,rfl⟩
 | non=>cases h
 | str x=>cases h
 | tup ts=>cases h
theorem zqe {t:Th}(h:isN t=true):∃nd:Nd,t=nd.th:=by
 cases t with
 | non=>cases h
 | int i=>cases h
 | str x=>cases h
 | tup ts=>
  by_cases hl:ts.length=5
  ·match ts,hl,h with
   | [k,w,l,r,c],_,h=>
    have h':(!decide (k=.non) && (!decide (w=.non) && (isR l && (isR r && zmY c))))=true:=h;simp only[Bool.and_eq_true] at h';obtain⟨_,_,h3,h4,h5⟩:=h';obtain⟨l',rfl⟩:=zkY h3;obtain⟨r',rfl⟩:=zkY h4;cases c with
    | int c'=>exact⟨⟨k,w,l',r',c'⟩,rfl⟩
    | non=>cases h5
    | str x=>cases h5
    | tup ts=>cases h5
  ·rw[zk7 hl] at h;cases h
theorem zhA {t:Th}{nd:Nd}(h:ndOf t=some nd):t=nd.th/\isN t=true:=by
 unfold ndOf at h;split at h
 ·rename_i k w l r c;split at h
  ·rename_i z;cases h;exact⟨rfl,z⟩
  ·cases h
 ·cases h
theorem zl8 {t:Th}(h:ndOf t=none):isN t=false:=by
 cases z:isN t with
 | false=>rfl
 | true=>obtain⟨nd,rfl⟩:=zqe z;rw[zkX z] at h;cases h
def zgf:Sp:=λvs H Q _=>∃(t:Th) (v:V),vs=[v]/\Rep H t v/\Q (.bl (isW t)) H
def zkw:Sp:=λvs H Q _=>∃(t:Th) (v:V),vs=[v]/\Rep H t v/\Q (.bl (isR t)) H
def zmG:Sp:=λvs H Q _=>∃(t:Th) (v:V),vs=[v]/\Rep H t v/\Q (.bl (isN t)) H
section
variable {P:Program}{w:World}{K:QA}{mg:QB}{base:Heap}{x:Str}{t1 t2 t3 t4 t5 t6 t7:Tok}
theorem zlr (D:Dfn K mg "is_whole" zfa ["value"]) (zv:mg "isinstance" =none) (zba:mg "int" =none) (zkd:mg "bool" =none):Fn P w K mg base "is_whole" 1 ["value"] zgf:=by
 refine D.ok (k:=0) zj8 (λvs H Q E h=>?_) (λf cdv A outer s H vs Q E hr h=>?_)
 ·obtain⟨t,v,rfl,_⟩:=h;rfl
 obtain⟨t,v,rfl,rt,q⟩:=h;refine⟨_,(zd (zm (zdM (zH (zan) (by rfl) zv (by rfl) (za (pv 0) (za (zaS (v:=.ty "int") (by rfl) zba (by rfl) rfl) zc))) (ze6 (znC (zH (zan) (by rfl) zv (by rfl) (za (pv 0) (za (zaS (v:=.ty "bool") (by rfl) zkd (by rfl) rfl) zc)))))))),?_⟩;cases rt with
 | non=>exact⟨_,rfl,_,_,_,_,rfl,.non,rfl,_,rfl,ifF rfl q⟩
 | int i=>refine⟨_,rfl,_,_,_,_,rfl,.int i,rfl,_,rfl,ifT rfl ?_⟩;exact⟨_,rfl,_,_,_,_,rfl,.int i,rfl,_,rfl,q⟩
 | str x=>exact⟨_,rfl,_,_,_,_,rfl,.str x,rfl,_,rfl,ifF rfl q⟩
 | tup e l h=>exact⟨_,rfl,_,_,_,_,rfl,.tup e,rfl,_,rfl,ifF rfl q⟩
theorem znd (D:Dfn K mg "is_root" zgD ["thing"]) (zdY:Fn P w K mg base "is_whole" 1 ["value"] zgf):Fn P w K mg base "is_root" 2 ["thing"] zkw:=by
 refine D.ok (k:=1) zl1 (λvs H Q E h=>?_) (λf cdv A outer s H vs Q E hr h=>?_)
 ·obtain⟨t,v,rfl,_⟩:=h;rfl
 obtain⟨t,v,rfl,rt,q⟩:=h;refine⟨_,(zd (zm (zdM (zF zdY hr (by omega) (by rfl) (za (pv 0) zc)) (ze6 (zax zkW (pv 0) zg (zA _)))))),?_⟩;refine⟨_,rfl,t,v,rfl,rt,_,rfl,?_⟩;cases rt with
 | non=>exact ifF rfl q
 | int i=>exact ifT rfl ⟨_,rfl,_,_,rfl,rfl,q⟩
 | str x=>exact ifF rfl q
 | tup e l h=>exact ifF rfl q
theorem zlT (D:Dfn K mg "is_node" zgv ["thing"]) (zhG:Fn P w K mg base "is_root" 2 ["thing"] zkw) (zdY:Fn P w K mg base "is_whole" 1 ["value"] zgf) (zv:mg "isinstance" =none) (zcT:mg "tuple" =none) (zP:mg "len" =none)
  (zaA:mg "KEY" =some (.int 0 t1)) (zaL:mg "WORTH" =some (.int 1 t2)) (zak:mg "LEFT" =some (.int 2 t3)) (zaa:mg "RIGHT" =some (.int 3 t4)) (zQ:mg "COUNT" =some (.int 4 t5)) (zbm:mg "MOST_NODES" =some (.int 300 t6)):
  Fn P w K mg base "is_node" 3 ["thing"] zmG:=by
 refine D.ok (k:=2) zlS (λvs H Q E h=>?_) (λf cdv A outer s H vs Q E hr h=>?_)
 ·obtain⟨t,v,rfl,_⟩:=h;rfl
 obtain⟨t,v,rfl,rt,q⟩:=h;refine⟨_,(zb (zL (PW.pt (zf9 (zdg (zai (zH (zan) (by rfl) zv (by rfl) (za (pv 0) (za (zaS (v:=.ty "tuple") (by rfl) zcT (by rfl) rfl) zc))))) (zeO (zB zcr (zH (zG) (by rfl) zP (by rfl) (za (pv 0) zc)) zg (zA _)))))
 (zd (zm zbM))
 zu)
 (zb (zL (PW.pt (zf9 (zB zcI (zt zy (pv 0) (zw (v:=.int 0) (by rfl) zaA ⟨_,rfl⟩) (λ_ _=>rfl)) zaC (zA _)) (zeO (zB zcI (zt zy (pv 0) (zw (v:=.int 1) (by rfl) zaL ⟨_,rfl⟩) (λ_ _=>rfl)) zaC (zA _)))))
 (zd (zm zbM))
 zu)
 (zb (zL (PW.pt (zf9 (zdg (zai (zF zhG hr (by omega) (by rfl) (za (zt zy (pv 0) (zw (v:=.int 2) (by rfl) zak ⟨_,rfl⟩) (λ_ _=>rfl)) zc)))) (zeO (zdg (zai (zF zhG hr (by omega) (by rfl) (za (zt zy (pv 0) (zw (v:=.int 3) (by rfl) zaa ⟨_,rfl⟩) (λ_ _=>rfl)) zc)))))))
 (zd (zm zbM))
 zu)
 (zd (zm (zdM (zF zdY hr (by omega) (by rfl) (za (zt zy (pv 0) (zw (v:=.int 4) (by rfl) zQ ⟨_,rfl⟩) (λ_ _=>rfl)) zc)) (ze6 (zmF zpP zpP zg (zt zy (pv 0) (zw (v:=.int 4) (by rfl) zQ ⟨_,rfl⟩) (λ_ _=>rfl)) (zw (v:=.int 300) (by rfl) zbm ⟨_,rfl⟩))))))))),?_⟩
 cases rt with
 | non=>exact⟨_,rfl,_,_,_,_,rfl,.non,rfl,_,rfl,ifT rfl (ifT rfl q)⟩
 | int i=>exact⟨_,rfl,_,_,_,_,rfl,.int i,rfl,_,rfl,ifT rfl (ifT rfl q)⟩
 | str x=>exact⟨_,rfl,_,_,_,_,rfl,.str x,rfl,_,rfl,ifT rfl (ifT rfl q)⟩
 | @tup a xs ts ea l0 h0=>
  refine⟨_,rfl,_,_,_,_,rfl,.tup ea,rfl,_,rfl,ifF rfl ?_⟩;refine⟨_,rfl,a,_,rfl,.inr (SqT.of ea),rfl,_,rfl,?_⟩;rw[zaN];by_cases hl:ts.length=5
  ·have rep:Rep H (.tup ts) (.ref a):=.tup ea l0 h0
   match ts,hl,rep,q with
   | [k,wo,l,r,c],_,rep,q=>
   obtain⟨a',xs',e,ea',r1⟩:=rep.list;cases e;rw[ea] at ea';cases ea';cases r1 with
   | cons rk r2=>
   cases r2 with
   | cons rw' r3=>
   cases r3 with
   | cons rl r4=>
   cases r4 with
   | cons rr r5=>
   cases r5 with
   | cons rc r6=>
   cases r6 with
   | nil=>
   refine ifF (by rfl) ?_;rename_i vk vw vl vr vc;have et:SqT K H a [vk,vw,vl,vr,vc]:=SqT.of ea;have q':Q (.bl (!decide (k=.non) && (!decide (wo=.non) && (isR l && (isR r && zmY c))))) H:=q;refine⟨_,rfl,a,_,_,_,rfl,rfl,et,rfl,rfl,_,rfl,?_⟩;rw[zdq rk];cases z1:decide (k=.non) with
   | true=>rw[z1] at q';exact ifT rfl (ifT rfl q')
   | false=>
   rw[z1] at q';refine ifF rfl ?_;refine⟨_,rfl,a,_,_,_,rfl,rfl,et,rfl,rfl,_,rfl,?_⟩;rw[zdq rw'];cases z2:decide (wo=.non) with
   | true=>rw[z2] at q';exact ifT rfl q'
   | false=>
   rw[z2] at q';refine ifF rfl ?_;refine⟨_,rfl,a,_,_,_,rfl,rfl,et,rfl,l,_,rfl,rl,_,rfl,?_⟩;cases z3:isR l with
   | false=>rw[z3] at q';exact ifT rfl (ifT rfl q')
   | true=>
   rw[z3] at q';refine ifF rfl ?_;refine⟨_,rfl,a,_,_,_,rfl,rfl,et,rfl,r,_,rfl,rr,_,rfl,?_⟩;cases z4:isR r with
   | false=>rw[z4] at q';exact ifT rfl q'
   | true=>
   rw[z4] at q';refine ifF rfl ?_;refine⟨_,rfl,a,_,_,_,rfl,rfl,et,rfl,c,_,rfl,rc,_,rfl,?_⟩;cases rc with
   | non=>exact ifF rfl q'
   | str x=>exact ifF rfl q'
   | tup e l h=>exact ifF rfl q'
   | int i=>
    refine ifT rfl ?_;refine⟨_,rfl,a,_,_,_,rfl,rfl,et,rfl,_,_,rfl,rfl,_,rfl,?_⟩;have q2:Q (.bl (decide (1<=i) && decide (i<=300))) H:=q';cases z5:decide (1<=i) with
    | false=>rw[z5] at q2;exact ifF rfl q2
    | true=>rw[z5] at q2;exact ifT rfl ⟨_,_,rfl,rfl,q2⟩
  ·rw[zk7 hl] at q;refine ifT (by rw[l0];rw[Jd (show¬((ts.length:Nat):Int)=5 by omega)];rfl) q
end
end Pv
namespace Pv
open PySem L2
inductive Er where
 | bad
 | lacks
 | clash (u t:Th)
structure Vst where
 own:List (Int ×Th)
 kp:List (Int ×Th)
 nt:List (Int ×Th)
 n:Nat
noncomputable def Vst.all (s:Vst):List (Int ×Th):=s.own++s.kp
noncomputable def Vst.look (s:Vst)(n:Int):Option (Th ×Vst):=
 match zD s.own n with
 | some t=>some (t,{s with n:=s.n - 1})
 | none=>match zD s.kp n with
  | some t=>some (t,{s with nt:=addT s.nt n t,n:=s.n - 1})
  | none=>none
noncomputable def Vst.add (s:Vst)(t:Th):Vst:={s with own:=addT s.own (zE t) t,n:=s.n - 1}
noncomputable def Vst.stop (s:Vst)(t:Th):Option Th:=match zD s.all (zE t) with
 | none=>none
 | some u=>if u=t then none else some u
inductive Pg (α:Type) where
 | ret (x:α)
 | bad
 | rd (n:Int) (k:Th->Pg α)
 | lay (t:Th) (k:Pg α)
noncomputable def Pg.bind {α β:Type}:Pg α->(α->Pg β)->Pg β
 | .ret x,f=>f x
 | .bad,_=>.bad
 | .rd n k,f=>.rd n λt=>(k t).bind f
 | .lay t k,f=>.lay t (k.bind f)
def Pg.wp {α:Type}:Pg α->Vst->(α->Vst->Prop)->(Er->Vst->Prop)->Prop
 | .ret x,s,q,_=>q x s
 | .bad,s,_,e=>e .bad s
 | .rd n k,s,q,e=>0 < s.n/\(∀t s',s.look n=some (t,s')->(k t).wp s' q e)/\(s.look n=none->e .lacks s)
 | .lay t k,s,q,e=>0 < s.n/\Good t/\(s.stop t=none->k.wp (s.add t) q e)/\(∀u,s.stop t=some u->e (.clash u t) s)
theorem Pg.wp_bind {α β:Type}{f:α->Pg β}{q:β->Vst->Prop}{e:Er->Vst->Prop}:∀{p:Pg α} {s:Vst},(p.bind f).wp s q e=p.wp s (λx s'=>(f x).wp s' q e) e
 | .ret x,s=>rfl
 | .bad,s=>rfl
 | .rd n k,s=>by show(0 < s.n/\(∀t s',s.look n=some (t,s')->((k t).bind f).wp s' q e)/\(s.look n=none->e .lacks s))=(0 < s.n/\(∀t s',s.look n=some (t,s')->(k t).wp s' (λx s'=>(f x).wp s' q e) e)/\(s.look n=none->e .lacks s));rw[show(∀t s',s.look n=some (t,s')->((k t).bind f).wp s' q e)=(∀t s',s.look n=some (t,s')->(k t).wp s' (λx s'=>(f x).wp s' q e) e) from forall_congr λt=>forall_congr λs'=>by rw[wp_bind (p:=k t)]]
 | .lay t k,s=>by show(0 < s.n/\Good t/\(s.stop t=none->(k.bind f).wp (s.add t) q e)/\(∀u,s.stop t=some u->e (.clash u t) s))=(0 < s.n/\Good t/\(s.stop t=none->k.wp (s.add t) (λx s'=>(f x).wp s' q e) e)/\(∀u,s.stop t=some u->e (.clash u t) s));rw[wp_bind (p:=k)]
theorem Pg.wp_mono {α:Type}{q q':α->Vst->Prop}{e e':Er->Vst->Prop}(hq:∀x s,q x s->q' x s)(he:∀r s,e r s->e' r s):∀{p:Pg α} {s:Vst},p.wp s q e->p.wp s q' e'
 | .ret x,s,h=>hq x s h
 | .bad,s,h=>he _ s h
 | .rd n k,s,⟨h0,h,h2⟩=>⟨h0,λt s' z=>wp_mono hq he (h t s' z),λz=>he _ s (h2 z)⟩
 | .lay t k,s,⟨h0,hg,h,h2⟩=>⟨h0,hg,λz=>wp_mono hq he (h z),λu z=>he _ s (h2 u z)⟩
def NL (H H':Hp):Prop:=∀b o,(∀xs,o≠ .lst xs)->H b=some o->H' b=some o
theorem Same.nl {H H':Hp}(s:Same H H'):NL H H':=λb o _ e=>s b o e
theorem NL.lst {H:Hp}{p:Addr}{xs ys:QQ}(e:H p=some (.lst xs)):NL H (upd H p (.lst ys)):=λb o h q=>by rw[zl (λz=>by rw[z,e] at q;cases q;exact h xs rfl)];exact q
abbrev VRT:=Hp->Addr->List Addr->Vst->Prop
structure VI (C:Addr)(VR:VRT):Prop where
 ins:∀{H a D s},VR H a D s->∃dx fs,H a=some (.ins C dx fs)/\fs.lookup ("thing" :Str)=none/\fs.lookup ("lay" :Str)=none
 dic:∀{H a D s},VR H a D s->∀d∈D,∃kv,H d=some (.dK kv)
 nl:∀{H H' a D s},VR H a D s->NL H H'->VR H' a D s
theorem VI.same {C:Addr}{VR:VRT}(I:VI C VR){H H':Hp}{a:Addr}{D:QO}{s:Vst}(v:VR H a D s)(sm:Same H H'):VR H' a D s:=I.nl v (Same.nl sm)
theorem VI.not {C:Addr}{VR:VRT}(I:VI C VR){H:Hp}{a b:Addr}{D:QO}{s:Vst}{o:HO}(v:VR H a D s)(e:H b=some o)(h:∀kv,o≠ .dK kv):b∉D:=λz=>by obtain⟨kv,ek⟩:=I.dic v b z;rw[ek] at e;cases e;exact h kv rfl
theorem VI.tups {C:Addr}{VR:VRT}(I:VI C VR){H H':Hp}{a:Addr}{D:QO}{s:Vst}(v:VR H a D s)(f:Frm D H H'):Tups H H':=λb xs e=>f b _ (I.not v e (by intro kv z;cases z)) e
theorem VI.lst {C:Addr}{VR:VRT}(I:VI C VR){H H':Hp}{a b:Addr}{D:QO}{s:Vst}{xs:QQ}(v:VR H a D s)(f:Frm D H H')(e:H b=some (.lst xs)):H' b=some (.lst xs):=f b _ (I.not v e (by intro kv z;cases z)) e
def OutE (VR:VRT)(CN CB CC a:Addr)(D:QO)(H:Hp)(E:XK):Er->Vst->Prop
 | .bad,s=>∀H',Frm D H H'->VR H' a D s->E (.ref CB) none H'
 | .lacks,s=>∀H',Frm D H H'->VR H' a D s->E (.ref CN) none H'
 | .clash u t,s=>∀(x:Addr) (v1 v2:V) (H':Hp),Frm D H H'->VR H' a D s->Rep H' u v1->Rep H' t v2->Good u->Good t->u≠t->zE u=zE t->H' x=some (xdO x [("one",v1),("other",v2)])->E (.ref CC) (some x) H'
theorem OutE.on {VR:VRT}{CN CB CC a:Addr}{D:QO}{H H1:Hp}{E:XK}(f:Frm D H H1):∀r s,OutE VR CN CB CC a D H E r s->OutE VR CN CB CC a D H1 E r s
 | .bad,s,h=>λH' f' v=>h H' (f.trans f') v
 | .lacks,s,h=>λH' f' v=>h H' (f.trans f') v
 | .clash u t,s,h=>λx v1 v2 H' f' v=>h x v1 v2 H' (f.trans f') v
def OutQ {α:Type}(VR:VRT)(a:Addr)(D:QO)(rp:Hp->α->V->Prop)(H:Hp)(Q:V->Hp->Prop)(x:α)(s:Vst):Prop:=∀v H',Frm D H H'->VR H' a D s->rp H' x v->Q v H'
theorem OutQ.on {α:Type}{VR:VRT}{a:Addr}{D:QO}{rp:Hp->α->V->Prop}{H H1:Hp}{Q:V->Hp->Prop}(f:Frm D H H1)(x:α)(s:Vst)(h:OutQ VR a D rp H Q x s):OutQ VR a D rp H1 Q x s:=λv H' f'=>h v H' (f.trans f')
abbrev Out {α:Type}(VR:VRT)(CN CB CC a:Addr)(D:QO)(p:Pg α)(s:Vst)(rp:Hp->α->V->Prop)(H:Hp)(Q:V->Hp->Prop)(E:XK):Prop:=p.wp s (OutQ VR a D rp H Q) (OutE VR CN CB CC a D H E)
def zci (VR:VRT)(CN:Addr):Sp:=λvs H Q E=>∃(a:Addr) (D:QO) (s:Vst) (n:Int),vs=[.ref a,.int n]/\VR H a D s/\0 < s.n/\
 (∀t s' v H',s.look n=some (t,s')->Frm D H H'->VR H' a D s'->Rep H' t v->Good t->Q v H')/\(∀H',s.look n=none->Frm D H H'->VR H' a D s->E (.ref CN) none H')
def zcH (VR:VRT)(CC:Addr):Sp:=λvs H Q E=>∃(a:Addr) (D:QO) (s:Vst) (t:Th) (v:V),vs=[.ref a,v]/\VR H a D s/\0 < s.n/\Rep H t v/\Good t/\
 (∀H',s.stop t=none->Frm D H H'->VR H' a D (s.add t)->Q (.int (zE t)) H')/\
 (∀(u:Th) (x:Addr) (v1 v2:V) (H':Hp),s.stop t=some u->Frm D H H'->VR H' a D s->Rep H' u v1->Rep H' t v2->Good u->Good t->u≠t->zE u=zE t->H' x=some (xdO x [("one",v1),("other",v2)])->E (.ref CC) (some x) H')
def NdR (H:Hp)(nd:Nd)(v:V):Prop:=Rep H nd.th v/\Good nd.th
noncomputable def benK (m:Int)(t:Th):Pg Nd:=match ndOf t with
 | none=>.bad
 | some nd=>if nd.c < m then .ret nd else .bad
theorem zhz {m:Int}{t:Th}(h:ndOf t=none):benK m t=.bad:=by unfold benK;rw[h]
theorem zeZ {m:Int}{t:Th}{nd:Nd}(h:ndOf t=some nd):benK m t=if nd.c < m then .ret nd else .bad:=by unfold benK;rw[h]
noncomputable def benP (n m:Int):Pg Nd:=.rd n (benK m)
theorem ziQ {n m:Int}{s:Vst}{q:Nd->Vst->Prop}{e:Er->Vst->Prop}(h:(benP n m).wp s q e):(benP n m).wp s (λnd s'=>(1<=nd.c/\nd.c < m)/\q nd s') e:=by
 refine⟨h.1,λt s' z=>?_,h.2.2⟩;have h1:=h.2.1 t s' z;cases y:ndOf t with
 | none=>rw[zhz y] at h1 ⊢;exact h1
 | some nd=>
  rw[zeZ y] at h1 ⊢;obtain⟨rfl,zz⟩:=zhA y;by_cases hc:nd.c < m
  ·rw[if_pos hc] at h1 ⊢;exact⟨⟨(zqk zz).c1,hc⟩,h1⟩
  ·rw[if_neg hc] at h1 ⊢;exact h1
noncomputable def zej (n m:Int):Pg Int:=if n=0 then .ret 0 else(benP n m).bind λnd=>.ret nd.c
def IntR (_:Hp)(i:Int)(v:V):Prop:=v=.int i
def zeS (VR:VRT)(CN CB CC:Addr):Sp:=λvs H Q E=>∃(a:Addr) (D:QO) (s:Vst) (n m:Int),vs=[.ref a,.int n,.int m]/\VR H a D s/\Out VR CN CB CC a D (benP n m) s NdR H Q E
def zeD (VR:VRT)(CN CB CC:Addr):Sp:=λvs H Q E=>∃(a:Addr) (D:QO) (s:Vst) (n m:Int),vs=[.ref a,.int n,.int m]/\VR H a D s/\Out VR CN CB CC a D (zej n m) s IntR H Q E
def zkA (VR:VRT)(CN CB CC:Addr):Sp:=λvs H Q E=>∃(a:Addr) (D:QO) (s:Vst) (n:Int),vs=[.ref a,.int n]/\VR H a D s/\Out VR CN CB CC a D (zej n 301) s IntR H Q E
section
variable {P:Program}{w:World}{K:QA}{mg:QB}{base:Heap}{VR:VRT}{C CC CN CB:Addr}{x:Str}{t1 t2 t3 t4 t5 t6 t7:Tok}
theorem zpc (I:VI C VR)(D:Dfn K mg "node_beneath" zbr ["vault","root","count"]) (zbH:Mt P w K mg base (CX1 P w) C "thing" 2 ["self","number"] (zci VR CN)) (c_K:Cls K C) (zfe:Fn P w K mg base "is_node" 3 ["thing"] zmG) (zdZ:XP K mg "BadThing" CB) (zQ:mg "COUNT" =some (.int 4 t5)):
  FnX P w K mg base "node_beneath" 4 ["vault","root","count"] (zeS VR CN CB CC):=by
 refine D.okX (k:=3) zc5 (λvs H Q E h=>?_) (λf cdv A outer s H vs Q E hr h=>?_)
 ·obtain⟨a,D,s,n,m,rfl,_⟩:=h;rfl
 obtain⟨a,D,s,n,m,rfl,vs,h⟩:=h;obtain⟨h0,h1,h2⟩:=h;obtain⟨dx,fs,eo,n1,n2⟩:=I.ins vs;refine⟨_,(zb (zq (i:=3) zc5.nd rfl (Or.inl rfl) (zb5 (pv 0) c_K zbH hr (by omega) zK (za (pv 1) zc)))
 (zb (zL (PW.pt (zf9 (zdg (zai (zF zfe hr (by omega) (by rfl) (za (pv 3) zc)))) (zeO (zB zkW (zt zy (pv 3) (zw (v:=.int 4) (by rfl) zQ ⟨_,rfl⟩) (λ_ _=>rfl)) (pv 2) (zA _)))))
 (zd (zgQ zge rfl (zpQ zdZ (by rfl) (za zdH zc))))
 zu)
 (zd (zm (pv 3))))),?_⟩
 refine⟨_,rfl,a,dx,_,rfl,eo,n1,_,rfl,a,D,s,n,rfl,vs,h0,λt s' v H1 lt f1 vs1 rep gt=>?_,λH1 ln f1 vs1=>h2 ln H1 f1 vs1⟩;have h3:=h1 t s' lt;refine⟨_,rfl,t,v,rfl,rep,_,rfl,?_⟩;cases z:ndOf t with
 | none=>rw[zhz z] at h3;rw[zl8 z];refine ifT rfl (ifT rfl ⟨szl (show 1<=1000 by decide),λe he=>⟨e,CB,none,rfl,zj,zdZ.cl.q,?_⟩⟩);rw[zhQ he];exact h3 H1 f1 vs1
 | some nd=>
  rw[zeZ z] at h3;obtain⟨rfl,zz⟩:=zhA z;rw[zz];obtain⟨p,vk,vw,rfl,ea,rk,rw'⟩:=zO rep;have et:SqT K H1 p [vk,vw,.int nd.l,.int nd.r,.int nd.c]:=SqT.of ea;refine ifF rfl ⟨_,rfl,p,_,_,_,rfl,rfl,et,rfl,_,rfl,_,_,rfl,rfl,_,rfl,?_⟩;by_cases hc:nd.c < m
  ·rw[if_pos hc] at h3;exact ifF (Jd (Int.not_le.mpr hc)) ⟨_,rfl,h3 _ H1 f1 vs1 ⟨rep,gt⟩⟩
  ·rw[if_neg hc] at h3;refine ifT (decide_eq_true (Int.not_lt.mp hc)) ⟨szl (show 1<=1000 by decide),λe he=>⟨e,CB,none,rfl,zj,zdZ.cl.q,?_⟩⟩;rw[zhQ he];exact h3 H1 f1 vs1
theorem zmb (I:VI C VR)(D:Dfn K mg "size_beneath" zbs ["vault","root","count"]) (zao:FnX P w K mg base "node_beneath" 4 ["vault","root","count"] (zeS VR CN CB CC)) (zQ:mg "COUNT" =some (.int 4 t5)):
  FnX P w K mg base "size_beneath" 5 ["vault","root","count"] (zeD VR CN CB CC):=by
 refine D.okX (k:=4) zgr (λvs H Q E h=>?_) (λf cdv A outer s H vs Q E hr h=>?_)
 ·obtain⟨a,D,s,n,m,rfl,_⟩:=h;rfl
 obtain⟨a,D,s,n,m,rfl,vs,h⟩:=h;refine⟨_,(zb (zL (zB zcu (pv 1) zg (zA _))
 (zd (zm zg))
 zu)
 (zd (zm (zt zy (zW zao hr (by omega) (by rfl) zK (za (pv 0) (za (pv 1) (za (pv 2) zc)))) (zw (v:=.int 4) (by rfl) zQ ⟨_,rfl⟩) (λ_ _=>rfl))))),?_⟩
 refine⟨_,rfl,rfl,_,rfl,?_⟩;rw[zaN];unfold zej Out at h;by_cases h0:n=0
 ·rw[if_pos h0] at h;exact ifT (decide_eq_true h0) (h _ H (Frm.of (Same.refl H)) vs rfl)
 ·rw[if_neg h0,Pg.wp_bind] at h;refine ifF (Jd h0) ?_;refine⟨_,rfl,_,rfl,_,rfl,a,D,s,n,m,rfl,vs,Pg.wp_mono (λnd s' q v H1 f1 vs1 rn=>?_) (λ_ _ z=>z) h⟩;obtain⟨p,vk,vw,rfl,ea,rk,rw'⟩:=zO rn.1;exact⟨p,_,_,_,rfl,rfl,SqT.of ea,rfl,q _ H1 f1 vs1 rfl⟩
theorem znX (I:VI C VR)(D:Dfn K mg "size" ssize ["vault","root"]) (zaR:FnX P w K mg base "size_beneath" 5 ["vault","root","count"] (zeD VR CN CB CC)) (zac:mg "BENEATH_NONE" =some (.int 301 t7)):
  FnX P w K mg base "size" 6 ["vault","root"] (zkA VR CN CB CC):=by
 refine D.okX (k:=5) zp7 (λvs H Q E h=>?_) (λf cdv A outer s H vs Q E hr h=>?_)
 ·obtain⟨a,D,s,n,rfl,_⟩:=h;rfl
 obtain⟨a,D,s,n,rfl,vs,h⟩:=h;refine⟨_,(zd (zm (zW zaR hr (by omega) (by rfl) zK (za (pv 0) (za (pv 1) (za (zw (v:=.int 301) (by rfl) zac ⟨_,rfl⟩) zc)))))),?_⟩;exact⟨_,rfl,_,rfl,a,D,s,n,301,rfl,vs,h⟩
end
end Pv
namespace Pv
open PySem L2
noncomputable abbrev zgS:Stmt:=top 30
theorem zlv:zr ["node","key"] ["node","key"] (zh zgS):=L2.fsc (by decide+kernel)
noncomputable abbrev zdR:Stmt:=top 42
theorem ziR:zr ["node","side","root","count"] ["node","side","root","count"] (zh zdR):=L2.fsc (by decide+kernel)
noncomputable abbrev zfI:Stmt:=top 31
theorem zch:zr ["vault","root","key","way","count","node"] ["vault","root","key"] (zh zfI):=L2.fsc (by decide+kernel)
noncomputable abbrev zgB:Stmt:=top 32
theorem zlt:zr ["way","key"] ["way","key"] (zh zgB):=L2.fsc (by decide+kernel)
noncomputable abbrev ziq:Stmt:=top 33
theorem zkz:zr ["vault","root","key","way"] ["vault","root","key"] (zh ziq):=L2.fsc (by decide+kernel)
theorem zbh {xs:QQ}{v:V}:atI (xs++ [v]) (-1)=some v:=by
 unfold atI ixN;rw[if_neg (by decide),if_pos (by simp only[List.length_append,List.length_singleton];omega)];show(xs++ [v])[((-1:Int)+(((xs++ [v]).length:Nat):Int)).toNat]? =_;rw[show((-1:Int)+(((xs++ [v]).length:Nat):Int)).toNat=xs.length by simp only[List.length_append,List.length_singleton];omega,List.getElem?_append_right (Jb _),Nat.sub_self]
 rfl
theorem RepL.unsnoc {H:Hp}{t:Th}:∀{ts:List Th} {vs:QQ},RepL H (ts++ [t]) vs->∃us v,vs=us++ [v]/\RepL H ts us/\Rep H t v
 | [],_,.cons h .nil=>⟨[],_,rfl,.nil,h⟩
 | u::ts,_,.cons h r=>by obtain⟨us,v,e,r',h'⟩:=RepL.unsnoc r;exact⟨_::us,v,by rw[e];rfl,.cons h r',h'⟩
theorem zdt {nd:Nd}(g:Good nd.th):dep nd.k<=7/\dep nd.w<=7:=by have h:max (dep nd.k) (max (dep nd.w) (max 0 (max 0 (max 0 0))))+1<=8:=g.dp;omega
noncomputable def zcW (k x:Th):Int:=if zf k x=true then 3 else 2
noncomputable def kidI (nd:Nd)(x:Th):Int:=if zf nd.k x=true then nd.r else nd.l
noncomputable def wayP (x:Th):Nat->Int->Int->Pg (List Nd)
 | 0,_,_=>.bad
 | f+1,n,m=>if n=0 then .ret [] else(benP n m).bind λnd=>if nd.k=x then .ret [nd] else(wayP x f (kidI nd x) nd.c).bind λns=>.ret (nd::ns)
theorem zn2 {x:Th}{q:List Nd->Vst->Prop}{e:Er->Vst->Prop}:∀{f:Nat} {n m:Int} {s:Vst},m<=301->(wayP x f n m).wp s q e->(wayP x f n m).wp s (λns s'=>(∀nd∈ns,1<=nd.c/\nd.c<=300)/\q ns s') e
 | 0,_,_,_,_,h=>h
 | f+1,n,m,s,hm,h=>by
  unfold wayP at h ⊢;by_cases h0:n=0
  ·rw[if_pos h0] at h ⊢;exact⟨λnd z=>(nomatch z),h⟩
  ·rw[if_neg h0,Pg.wp_bind] at h ⊢;refine Pg.wp_mono (λnd s' h1=>?_) (λ_ _ z=>z) (ziQ h);obtain⟨⟨c1,c2⟩,h1⟩:=h1;by_cases ek:nd.k=x
   ·rw[if_pos ek] at h1 ⊢;exact⟨λy hy=>by rw[Jq.mp hy];exact⟨c1,by omega⟩,h1⟩
   ·rw[if_neg ek,Pg.wp_bind] at h1 ⊢;refine Pg.wp_mono (λns s2 h2=>?_) (λ_ _ z=>z) (zn2 (by omega) h1);refine⟨λy hy=>?_,h2.2⟩;rcases List.mem_cons.mp hy with rfl | hy
    ·exact⟨c1,by omega⟩
    ·exact h2.1 y hy
def WayR (H:Hp)(ns:List Nd)(v:V):Prop:=∃pw ws,v=.ref pw/\H pw=some (.lst ws)/\RepL H (ns.map Nd.th) ws/\(∀nd∈ns,Good nd.th)/\ns.length<=301
noncomputable def zdE (ns:List Nd)(x:Th):Bool:=match ns.getLast? with
 | none=>false
 | some nd=>eqT nd.k x
noncomputable def endW (ns:List Nd)(x:Th):Th:=match ns.getLast? with
 | none=>.non
 | some nd=>if nd.k=x then nd.w else .non
noncomputable def zio (n:Int)(x:Th):Pg Th:=(wayP x 301 n 301).bind λns=>.ret (endW ns x)
def ThR (H:Hp)(t:Th)(v:V):Prop:=Rep H t v
def zes:Sp:=λvs H Q _=>∃(v vx:V) (nd:Nd) (x:Th),vs=[v,vx]/\Rep H nd.th v/\Rep H x vx/\dep nd.k<=7/\∀H',Same H H'->Q (.int (zcW nd.k x)) H'
noncomputable def zaB (nd:Nd)(s n m:Int):Nd:=if s=2 then⟨nd.k,nd.w,n,nd.r,m⟩ else⟨nd.k,nd.w,nd.l,n,m⟩
def zee:Sp:=λvs H Q _=>∃(v:V) (nd:Nd) (i n m:Int),vs=[v,.int i,.int n,.int m]/\Rep H nd.th v/\∀p H',Same H H'->Rep H' (zaB nd i n m).th (.ref p)->Q (.ref p) H'
def zf2 (VR:VRT)(CN CB CC:Addr):Sp:=λvs H Q E=>∃(a:Addr) (D:QO) (s:Vst) (n:Int) (x:Th) (vx:V),vs=[.ref a,.int n,vx]/\VR H a D s/\Rep H x vx/\dep x<=8/\Out VR CN CB CC a D (wayP x 301 n 301) s WayR H Q E
def zeb (K:QA):Sp:=λvs H Q _=>∃(pw:Addr) (ws:QQ) (ns:List Nd) (x:Th) (vx:V),vs=[.ref pw,vx]/\SqL K H pw ws/\RepL H (ns.map Nd.th) ws/\(∀nd∈ns,Good nd.th)/\Rep H x vx/\Q (.bl (zdE ns x)) H
def zed (VR:VRT)(CN CB CC:Addr):Sp:=λvs H Q E=>∃(a:Addr) (D:QO) (s:Vst) (n:Int) (x:Th) (vx:V),vs=[.ref a,.int n,vx]/\VR H a D s/\Rep H x vx/\dep x<=8/\Out VR CN CB CC a D (zio n x) s ThR H Q E
theorem zk6 {ws:QO}{H H1:Hp}{p:Addr}{o:HO}(f:Frm ws H H1)(h:H p=none):Frm ws H (upd H1 p o):=λb u n q=>by rw[zl (zo q h)];exact f b u n q
theorem ze1 {t u:Th}(h:t=u):eqT t u=true:=by rw[h,zaP]
theorem ze2 {t u:Th}(h:t≠u):eqT t u=false:=by
 cases z:eqT t u with
 | true=>exact Ji ((za3 _ _).mp z) h
 | false=>rfl
section
variable {P:Program}{w:World}{K:QA}{mg:QB}{base:Heap}{VR:VRT}{C CC CN CB:Addr}{x:Str}{t1 t2 t3 t4 t5 t6 t7:Tok}
theorem znh (D:Dfn K mg "side_of" zgS ["node","key"]) (zbl:Fn P w K mg base "ahead" 20 ["one","other"] (zcD 9)) (zaA:mg "KEY" =some (.int 0 t1)) (zak:mg "LEFT" =some (.int 2 t3)) (zaa:mg "RIGHT" =some (.int 3 t4)):Fn P w K mg base "side_of" 21 ["node","key"] zes:=by
 refine D.ok (k:=20) zlv (λvs H Q E h=>?_) (λf cdv A outer s H vs Q E hr h=>?_)
 ·obtain⟨v,vx,nd,x,rfl,_⟩:=h;rfl
 obtain⟨v,vx,nd,x,rfl,rn,rx,kd,q⟩:=h;obtain⟨p,vk,vw,rfl,ea,rk,rw'⟩:=zO rn;have et:SqT K H p [vk,vw,.int nd.l,.int nd.r,.int nd.c]:=SqT.of ea;refine⟨_,(zd (zm (zc3 (zai (zF zbl hr (by omega) (by rfl) (za (zt zy (pv 0) (zw (v:=.int 0) (by rfl) zaA ⟨_,rfl⟩) (λ_ _=>rfl)) (za (pv 1) zc)))) (zw (v:=.int 3) (by rfl) zaa ⟨_,rfl⟩) (zw (v:=.int 2) (by rfl) zak ⟨_,rfl⟩)))),?_⟩;refine⟨_,rfl,p,_,_,_,rfl,rfl,et,rfl,_,rfl,nd.k,x,_,_,rfl,rk,rx,by omega,by omega,λH1 s1=>⟨_,rfl,?_⟩⟩;have q1:=q H1 s1;unfold zcW at q1;cases z:zf nd.k x with
 | true=>rw[if_pos z] at q1;exact ifT rfl q1
 | false=>rw[if_neg (by rw[z];exact Jh)] at q1;exact ifF rfl q1
theorem zn9 (D:Dfn K mg "with_tree" zdR ["node","side","root","count"]) (zaA:mg "KEY" =some (.int 0 t1)) (zaL:mg "WORTH" =some (.int 1 t2)) (zak:mg "LEFT" =some (.int 2 t3)) (zaa:mg "RIGHT" =some (.int 3 t4)):Fn P w K mg base "with_tree" 1 ["node","side","root","count"] zee:=by
 refine D.ok (k:=0) ziR (λvs H Q E h=>?_) (λf cdv A outer s H vs Q E hr h=>?_)
 ·obtain⟨v,nd,i,n,m,rfl,_⟩:=h;rfl
 obtain⟨v,nd,i,n,m,rfl,rn,q⟩:=h;obtain⟨p,vk,vw,rfl,ea,rk,rw'⟩:=zO rn;have et:SqT K H p [vk,vw,.int nd.l,.int nd.r,.int nd.c]:=SqT.of ea;refine⟨_,(zb (zL (zB zcu (pv 1) (zw (v:=.int 2) (by rfl) zak ⟨_,rfl⟩) (zA _))
 (zd (zm (zau (za (zt zy (pv 0) (zw (v:=.int 0) (by rfl) zaA ⟨_,rfl⟩) (λ_ _=>rfl)) (za (zt zy (pv 0) (zw (v:=.int 1) (by rfl) zaL ⟨_,rfl⟩) (λ_ _=>rfl)) (za (pv 2) (za (zt zy (pv 0) (zw (v:=.int 3) (by rfl) zaa ⟨_,rfl⟩) (λ_ _=>rfl)) (za (pv 3) zc))))))))
 zu)
 (zd (zm (zau (za (zt zy (pv 0) (zw (v:=.int 0) (by rfl) zaA ⟨_,rfl⟩) (λ_ _=>rfl)) (za (zt zy (pv 0) (zw (v:=.int 1) (by rfl) zaL ⟨_,rfl⟩) (λ_ _=>rfl)) (za (zt zy (pv 0) (zw (v:=.int 2) (by rfl) zak ⟨_,rfl⟩) (λ_ _=>rfl)) (za (pv 2) (za (pv 3) zc))))))))),?_⟩
 refine⟨_,rfl,rfl,_,rfl,?_⟩;rw[zaN];unfold zaB at q;by_cases z:i=2
 ·refine ifT (decide_eq_true z) ?_;refine⟨_,rfl,p,_,_,_,rfl,rfl,et,rfl,_,rfl,p,_,_,_,rfl,rfl,et,rfl,_,rfl,_,rfl,p,_,_,_,rfl,rfl,et,rfl,_,rfl,szl (show 5<=1000 by decide),λp' hp'=>?_⟩;refine q p' _ (zk (Same.refl H) hp') ?_;rw[if_pos z];exact(RepL.cons rk (.cons rw' (.cons (.int _) (.cons (.int _) (.cons (.int _) .nil))))).new hp'
 ·refine ifF (Jd z) ?_;refine⟨_,rfl,p,_,_,_,rfl,rfl,et,rfl,_,rfl,p,_,_,_,rfl,rfl,et,rfl,_,rfl,p,_,_,_,rfl,rfl,et,rfl,_,rfl,_,rfl,szl (show 5<=1000 by decide),λp' hp'=>?_⟩;refine q p' _ (zk (Same.refl H) hp') ?_;rw[if_neg z];exact(RepL.cons rk (.cons rw' (.cons (.int _) (.cons (.int _) (.cons (.int _) .nil))))).new hp'
theorem zov (I:VI C VR)(D:Dfn K mg "way_to" zfI ["vault","root","key"]) (zao:FnX P w K mg base "node_beneath" 4 ["vault","root","count"] (zeS VR CN CB CC)) (zcz:Fn P w K mg base "side_of" 21 ["node","key"] zes) (zaA:mg "KEY" =some (.int 0 t1)) (zQ:mg "COUNT" =some (.int 4 t5)) (zac:mg "BENEATH_NONE" =some (.int 301 t7)):
  FnX P w K mg base "way_to" 22 ["vault","root","key"] (zf2 VR CN CB CC):=by
 refine D.okX (k:=21) zch (λvs H Q E h=>?_) (λf cdv A outer s H vs Q E hr h=>?_)
 ·obtain⟨a,D,s,n,x,vx,rfl,_⟩:=h;rfl
 obtain⟨a,D,s,n,x,vx,rfl,vs,rx,dx,h⟩:=h;refine⟨_,(zb (zq (i:=3) zch.nd rfl (Or.inl rfl) (zag zc))
 (zb (zq (i:=4) zch.nd rfl (Or.inl rfl) (zw (v:=.int 301) (by rfl) zac ⟨_,rfl⟩))
 (zb (zc9 PassesOwn.leaving (zB zcr (pv 1) zg (zA _))
 (zb (zq (i:=5) zch.nd rfl (Or.inl rfl) (zW zao hr (by omega) (by rfl) zK (za (pv 0) (za (pv 1) (za (pv 4) zc)))))
 (zb (zaU (zet PySem.F.plainAttrs_list PySem.F.slot_list_append PySem.F.type_list_append zaX (pv 3) (za (pv 5) zc)))
 (zb (zL (zB (zdr hr) (zt zy (pv 5) (zw (v:=.int 0) (by rfl) zaA ⟨_,rfl⟩) (λ_ _=>rfl)) (pv 2) (zA _))
 (zd (zm (pv 3)))
 zu)
 (zb (zq (i:=1) zch.nd rfl (Or.inl rfl) (zt zy (pv 5) (zF zcz hr (by omega) (by rfl) (za (pv 5) (za (pv 2) zc))) (λ_ _=>rfl)))
 (zd (zq (i:=4) zch.nd rfl (Or.inl rfl) (zt zy (pv 5) (zw (v:=.int 4) (by rfl) zQ ⟨_,rfl⟩) (λ_ _=>rfl)))))))))
 (zd (zm (pv 3)))))),?_⟩
 refine⟨szl (show 0<=1000 by decide),λpw hpw=>?_⟩;have s0:=zk (o:=.lst []) (Same.refl H) hpw;have e0:upd H pw (.lst []) pw=some (.lst []):=zj;generalize upd H pw (.lst [])=H0 at s0 e0;refine⟨λm σ H'=>∃(s1:Vst) (n c:Int) (done:List Nd) (ws:QQ) (k5:Option V),(wayP x m n c).wp s1 (λrest s'=>OutQ VR a D WayR H Q (done++rest) s') (OutE VR CN CB CC a D H E)/\1<=c/\c<=(m:Int)/\done.length+m<=301/\σ=[some (.ref a),some (.int n),some vx,some (.ref pw),some (.int c),k5]/\Frm D H H'/\VR H' a D s1/\H' pw=some (.lst ws)/\RepL H' (done.map Nd.th) ws/\(∀nd∈done,Good nd.th),⟨301,s,n,301,[],[],_,h,by decide,by decide,by decide,rfl,Frm.of s0,I.same vs s0,e0,.nil,λnd z=>by cases z⟩,?_⟩;clear h;rintro m σ H1 ⟨s1,n,c,done,ws,k5,h,hc1,hcm,hdm,rfl,f1,vs1,e1,r1,gd⟩;refine⟨_,rfl,rfl,_,rfl,?_⟩;rw[zaN];obtain⟨m,rfl⟩:∃j,m=j+1:=⟨m - 1,by omega⟩;unfold wayP at h;by_cases hn:n=0
 ·rw[if_pos hn] at h;refine ifF (by rw[decide_eq_true hn];rfl) ⟨_,rfl,h _ H1 f1 vs1 ⟨pw,ws,rfl,e1,?_,?_,?_⟩⟩
  ·rw[List.append_nil];exact r1
  ·rw[List.append_nil];exact gd
  ·rw[List.append_nil];omega
 rw[if_neg hn,Pg.wp_bind] at h;refine ifT (by rw[Jd hn];rfl) ⟨_,fun σ' H' h=>h,?_⟩;refine⟨_,rfl,_,rfl,_,rfl,a,D,s1,n,c,rfl,vs1,?_⟩;have hb:(benP n c).wp s1 (λnd s'=>(1<=nd.c/\nd.c < c)/\(if nd.k=x then Pg.ret [nd] else(wayP x m (kidI nd x) nd.c).bind λns=>.ret (nd::ns)).wp s' (λrest s'=>OutQ VR a D WayR H Q (done++rest) s') (OutE VR CN CB CC a D H E)) (OutE VR CN CB CC a D H E):=ziQ h;refine Pg.wp_mono (λnd s2 h2 v H2 f2 vs2 rn=>?_) (OutE.on f1) hb;obtain⟨⟨c1,c2⟩,h2⟩:=h2;obtain⟨rn,gn⟩:=rn;obtain⟨p,vk,vw,rfl,ea,rk,rw'⟩:=zO rn;have gd':∀nd'∈done++ [nd],Good nd'.th:=λnd' z=>by
  rcases Jj.mp z with z | z
  ·exact gd nd' z
  ·rw[Jq.mp z];exact gn
 have e2:=I.lst vs1 f2 e1;have hlw:ws.length=done.length:=by rw[r1.len,List.length_map]
 refine⟨_,rfl,.inl ⟨rfl,_,SqL.of e2⟩,_,rfl,pw,ws,_,rfl,rfl,e2,Jg (show ws.length < 1000 by omega) (szl (Jb _)),?_⟩;have tk1:Tups H2 (upd H2 pw (.lst (ws++ [.ref p]))):=Tups.upd λxs z=>by rw[e2] at z;cases z
 have e3:upd H2 pw (.lst (ws++ [.ref p])) pw=some (.lst (ws++ [.ref p])):=zj;have f3:Frm D H (upd H2 pw (.lst (ws++ [.ref p]))):=zk6 (f1.trans f2) hpw;have vs3:VR (upd H2 pw (.lst (ws++ [.ref p]))) a D s2:=I.nl vs2 (NL.lst e2);have r3:RepL (upd H2 pw (.lst (ws++ [.ref p]))) ((done++ [nd]).map Nd.th) (ws++ [.ref p]):=by rw[List.map_append];exact((r1.keep (I.tups vs1 f2)).keep tk1).snoc (rn.keep tk1)
 have rn3:=rn.keep tk1;have ea3:=tk1 _ _ ea;have rk3:=rk.keep tk1;have rx3:=(rx.keep ((I.tups vs (f1.trans f2)).trans tk1));generalize upd H2 pw (.lst (ws++ [.ref p]))=H3 at tk1 e3 f3 vs3 r3 rn3 ea3 rk3 rx3;have et:SqT K H3 p _:=SqT.of ea3;have kd:=(zdt gn).1;refine⟨_,rfl,p,_,_,_,rfl,rfl,et,rfl,_,rfl,nd.k,x,rk3,rx3,by omega,_,rfl,?_⟩;by_cases ek:nd.k=x
 ·rw[if_pos ek] at h2;exact ifT (ze1 ek) ⟨_,rfl,h2 _ H3 f3 vs3 ⟨pw,_,rfl,e3,r3,gd',by rw[List.length_append];show done.length+1<=301;omega⟩⟩
 ·rw[if_neg ek,Pg.wp_bind] at h2;refine ifF (ze2 ek) ?_;refine⟨_,rfl,_,rfl,_,rfl,_,_,nd,x,rfl,rn3,rx3,kd,λH4 s4=>?_⟩;have et4:SqT K H4 p _:=SqT.of (s4 _ _ ea3);have ix:atI [vk,vw,.int nd.l,.int nd.r,.int nd.c] (zcW nd.k x)=some (.int (kidI nd x)):=by
   unfold zcW kidI;by_cases y:zf nd.k x=true
   ·rw[if_pos y,if_pos y];rfl
   ·rw[if_neg y,if_neg y];rfl
  refine⟨p,_,_,_,rfl,rfl,et4,ix,?_⟩;refine⟨_,rfl,p,_,_,_,rfl,rfl,et4,rfl,?_⟩;refine⟨m,JB m,s2,_,_,done++ [nd],_,_,Pg.wp_mono (λns s' z=>?_) (λ_ _ z=>z) h2,c1,by omega,by rw[List.length_append];show done.length+1+m<=301;omega,rfl,f3.trans (Frm.of s4),I.same vs3 s4,s4 _ _ e3,r3.keep (Same.tups s4),gd'⟩;have z':OutQ VR a D WayR H Q (done++(nd::ns)) s':=z;rw[List.append_assoc];exact z'
theorem zm8 (D:Dfn K mg "ends_at" zgB ["way","key"]) (zaA:mg "KEY" =some (.int 0 t1)) (zP:mg "len" =none):Fn P w K mg base "ends_at" 1 ["way","key"] (zeb K):=by
 refine D.ok (k:=0) zlt (λvs H Q E h=>?_) (λf cdv A outer s H vs Q E hr h=>?_)
 ·obtain⟨pw,ws,ns,x,vx,rfl,_⟩:=h;rfl
 obtain⟨pw,ws,ns,x,vx,rfl,hs,rw,kt,rx,q⟩:=h;have hl:ws.length=ns.length:=by rw[rw.len,List.length_map]
 refine⟨_,(zd (zm (zdM (zax zmW (zH (zG) (by rfl) zP (by rfl) (za (pv 0) zc)) zg (zA _)) (ze6 (zax (zdr hr) (zt zy (zt zN (pv 0) (zdc zbK zg) (λ_ _=>rfl)) (zw (v:=.int 0) (by rfl) zaA ⟨_,rfl⟩) (λ_ _=>rfl)) (pv 1) (zA _)))))),?_⟩;refine⟨_,rfl,pw,_,rfl,.inl hs,_,_,rfl,rfl,_,rfl,?_⟩;rcases JD ns with e | ⟨pre,nd,e⟩
 ·subst e;refine ifF (by show decide ((0:Int) < ((ws.length:Nat):Int))=false;rw[hl];rfl) q
 ·rw[List.concat_eq_append] at e;subst e;have kd:=(zdt (kt nd (by simp))).1;rw[List.map_append] at rw;obtain⟨us,v,rfl,rus,rn⟩:=rw.unsnoc;obtain⟨p,vk,vw,rfl,ea,rk,_⟩:=zO rn;refine ifT (decide_eq_true (show(0:Int) < (((us++ [V.ref p]).length:Nat):Int) by simp only[List.length_append,List.length_singleton];omega)) ?_;have q':Q (.bl (eqT nd.k x)) H:=by unfold zdE at q;rw[List.getLast?_concat] at q;exact q
  exact⟨_,rfl,_,rfl,pw,_,_,_,rfl,rfl,hs,zbh,p,_,_,_,rfl,rfl,SqT.of ea,rfl,_,rfl,nd.k,x,rk,rx,by omega,q'⟩
theorem zl5 (I:VI C VR)(D:Dfn K mg "found" ziq ["vault","root","key"]) (zbV:FnX P w K mg base "way_to" 22 ["vault","root","key"] (zf2 VR CN CB CC)) (zcA:Fn P w K mg base "ends_at" 1 ["way","key"] (zeb K)) (zaL:mg "WORTH" =some (.int 1 t2)):FnX P w K mg base "found" 23 ["vault","root","key"] (zed VR CN CB CC):=by
 refine D.okX (k:=22) zkz (λvs H Q E h=>?_) (λf cdv A outer s H vs Q E hr h=>?_)
 ·obtain⟨a,D,s,n,x,vx,rfl,_⟩:=h;rfl
 obtain⟨a,D,s,n,x,vx,rfl,vs,rx,dx,h⟩:=h;refine⟨_,(zb (zq (i:=3) zkz.nd rfl (Or.inl rfl) (zW zbV hr (by omega) (by rfl) zK (za (pv 0) (za (pv 1) (za (pv 2) zc)))))
 (zd (zm (zc3 (zai (zF zcA hr (by omega) (by rfl) (za (pv 3) (za (pv 2) zc)))) (zt zy (zt zN (pv 3) (zdc zbK zg) (λ_ _=>rfl)) (zw (v:=.int 1) (by rfl) zaL ⟨_,rfl⟩) (λ_ _=>rfl)) zaC)))),?_⟩
 unfold Out zio at h;rw[Pg.wp_bind] at h;refine⟨_,rfl,_,rfl,_,rfl,a,D,s,n,x,vx,rfl,vs,rx,dx,Pg.wp_mono (λns s1 h1 v H1 f1 vs1 rn=>?_) (λ_ _ z=>z) h⟩;obtain⟨pw,ws,rfl,ew,rwy,gd,hl⟩:=rn;refine⟨_,rfl,_,rfl,pw,ws,ns,x,vx,rfl,SqL.of ew,rwy,gd,rx.keep (I.tups vs f1),_,rfl,?_⟩;have h2:OutQ VR a D ThR H Q (endW ns x) s1:=h1;rcases JD ns with e | ⟨pre,nd,e⟩
 ·subst e;exact ifF rfl (h2 _ H1 f1 vs1 .non)
 ·rw[List.concat_eq_append] at e;subst e;have eb:zdE (pre++ [nd]) x=eqT nd.k x:=by unfold zdE;rw[List.getLast?_concat]
  have ew':endW (pre++ [nd]) x=if nd.k=x then nd.w else .non:=by unfold endW;rw[List.getLast?_concat]
  rw[ew'] at h2;rw[eb];by_cases ek:nd.k=x
  ·rw[if_pos ek] at h2;rw[List.map_append] at rwy;obtain⟨us,v,rfl,rus,rn⟩:=rwy.unsnoc;obtain⟨p,vk,vw,rfl,ea,rk,rw'⟩:=zO rn;exact ifT (ze1 ek) ⟨_,rfl,_,rfl,pw,_,_,_,rfl,rfl,SqL.of ew,zbh,p,_,_,_,rfl,rfl,SqT.of ea,rfl,h2 vw H1 f1 vs1 rw'⟩
  ·rw[if_neg ek] at h2;exact ifF (ze2 ek) (h2 _ H1 f1 vs1 .non)
end
end Pv
namespace L2
open PySem PySem.Spec PyProof.Rows
noncomputable def Ite (K:QA)(p:Addr)(xs:QQ):It:=
 ⟨λn H=>SqL K H p xs/\n < xs.length,λn H v H'=>∃(T:Addr) (x:V),H T=none/\xs[n]? =some x/\v=.ref T/\H'=upd H T (.tup [.int n,x]),λn H=>SqL K H p xs/\xs.length<=n⟩
theorem zme {P:Program}{w:World}{K:QA}{elts:List Expr}{x1:Nat}{tpos:Pos}{e i p:Addr}{xs:QQ}(D:e≠i):
  Turn P w K (.Tuple elts x1 tpos) (Ite K p xs) [e,i] e (λn h=>(∃old,IsEnum h e i (n:Int) old)/\h.IsListIter i p n) where
 mem:=by simp
 obj:=λn h st b hb=>by
  obtain⟨⟨old,he⟩,⟨r1,e1,_,d1⟩⟩:=st;simp only[List.mem_cons,List.not_mem_nil,or_false] at hb;rcases hb with rfl | rfl
  ·exact⟨_,he,λv z=>by cases z⟩
  ·exact⟨_,e1,λv z=>by rw[d1] at z;cases z⟩
 keep:=λn h h' st kp=>by obtain⟨⟨old,he⟩,⟨r1,e1,x1⟩⟩:=st;exact⟨⟨old,kp e (by simp) _ he⟩,⟨r1,kp i (by simp) _ e1,x1⟩⟩
 item:=by
  intro X hP hw hK hc n pins s σ H E I hf st hg;subst hP hw hK;obtain⟨hp,hn⟩:=hg;obtain⟨⟨old,he⟩,hi⟩:=st;obtain⟨its,r1,T1,z1⟩:=I.list hp;have hx:xs[n]? =some xs[n]:=List.getElem?_eq_getElem hn;obtain⟨v1,e1,q1⟩:=r1.get hx;have fe:=hf e (by simp);have fi:=hf i (by simp);refine wpAny_pyNext_enum_item he hi T1.isList (x:=v1) (by simpa using e1) D λg eo ig new sz up=>?_;have hT:H s.heap.objs.size=none:=I.hok.fresh (Jb _);have inch:∀{b:Addr},H b≠none->b≠e/\b≠i:=λ{b} h=>⟨λz=>h (by rw[z];exact fe.1),λz=>h (by rw[z];exact fi.1)⟩;have hok:HOk X.prog X.w (upd H s.heap.objs.size (.tup [.int n,xs[n]])) g:=λb u e=>by
   by_cases hb:b=s.heap.objs.size
   ·subst hb;rw[zj] at e;cases e;refine⟨by simp only[List.length_cons,List.length_nil];rw[sizeLine_eq];decide,[.int n s.toks,v1],.cons ⟨_,rfl⟩ (.cons q1 .nil),⟨_,new,rfl,_,rfl⟩⟩
   ·rw[zl hb] at e;refine(I.hok b u e).stay (λc r hc q=>?_) (λc q=>by rw[zl (zo q hT)];exact q) λc ys q=>by rw[zl (zo q hT)];exact q
    have hne:H c≠none:=by
     rcases hc with rfl | hc
     ·rw[e];intro z;cases z
     ·rw[hc];intro z;cases z
    obtain⟨c1,c2⟩:=inch hne;exact up c r c1 c2 q
  have I1:Inv X pins σ (upd H s.heap.objs.size (.tup [.int n,xs[n]])) {s with heap:=g,toks:=s.toks+1}:=by
   refine I.step (g':=s.gens) (d':=s.drawn) (t':=s.toks+1) (ch:=[e,i]) (λb hb=>?_) (λb r _ _ hc e _=>?_) (λb r _ _ hc e _=>⟨r.slots,?_⟩) (λb r hc e hn=>?_) (λb r hc e=>⟨r,?_⟩) (λb ys e=>by rw[zl (zo e hT)];exact e)
    (λb r ys e=>by rw[zl (zo e hT)];exact e) (λb ps e=>⟨#[],by rw[zl (zo e hT),e];simp⟩) (λm hm=>?_) hok I.bare
   ·simp only[List.mem_cons,List.not_mem_nil,or_false] at hb;rcases hb with rfl | rfl
    ·exact⟨fe.2.2.2.1,fe.2.1,fe.2.2.2.2.1,fe.2.2.2.2.2⟩
    ·exact⟨fi.2.2.2.1,fi.2.1,fi.2.2.2.2.1,fi.2.2.2.2.2⟩
   ·simp only[List.mem_cons,List.not_mem_nil,or_false,not_or] at hc;exact up b r hc.1 hc.2 e
   ·simp only[List.mem_cons,List.not_mem_nil,or_false,not_or] at hc;exact up b r hc.1 hc.2 e
   ·rw[zl (Jm (Heap.lt_size e))];exact hn
   ·simp only[List.mem_cons,List.not_mem_nil,or_false,not_or] at hc;exact up b r hc.1 hc.2 e
   ·obtain⟨r,es,ep,er,d⟩:=hm;exact⟨r,es,ep,up _ r (Ne.symm fe.2.1) (Ne.symm fi.2.1) er,d⟩
  have le:e < s.heap.objs.size:=Heap.lt_size he;have hfp:∀b∈ [e,i],upd H s.heap.objs.size (.tup [.int n,xs[n]]) b=none:=λb hb=>by
   have fb:=hf b hb;have lt:b < s.heap.objs.size:=by
    obtain⟨r1,e1,_⟩:=hi;simp only[List.mem_cons,List.not_mem_nil,or_false] at hb;rcases hb with rfl | rfl
    ·exact le
    ·exact Heap.lt_size e1
   rw[zl (Jm lt)];exact fb.1
  refine⟨_,rfl,wpAny_letOwnedTupleGo_enum eo λg2 e2 s2=>?_⟩;refine⟨.ref s.heap.objs.size,_,I1.turned (it:=e) (t':=s.toks+1) (λb r hb q=>s2.extBut _ _ hb q) (hfp e (by simp)) fe.2.1 fe.2.2.2.1 fe.2.2.2.2.1 fe.2.2.2.2.2,rfl,⟨_,_,hT,hx,rfl,rfl⟩,⟨⟨_,e2⟩,ig.extBut s2.extBut (Ne.symm D)⟩,hfp⟩
 done:=by intro X hP hw hK hc n pins s σ H E I hf st hg;subst hP hw hK;obtain⟨hp,hn⟩:=hg;obtain⟨⟨old,he⟩,hi⟩:=st;obtain⟨its,r1,T1,z1⟩:=I.list hp;have fi:=hf i (by simp);have l1:=r1.length;refine wpAny_pyNext_enum_end (I.ok.hd hc) he hi T1.isList (by simp;omega) λg up=>⟨rfl,?_⟩;exact I.turned (it:=i) (t':=s.toks) up fi.1 fi.2.1 fi.2.2.2.1 fi.2.2.2.2.1 fi.2.2.2.2.2
 self:=λ_ _ _ _ _ st h=>by obtain⟨⟨old,he⟩,hi⟩:=st;exact wpAny_pyIter_enum he h
section
variable {X:Cx}
def zre (K:QA)(ta:TA):TI:=fun σ H R=>ta σ H λvs H1=>∃(p:Addr) (xs:QQ),vs=[.ref p]/\SqL K H1 p xs/\R (Ite K p xs) H1
theorem zoE {elts:List Expr}{x1:Nat}{tpos:Pos}{a:Expr}{ta:TA}{p pos:Pos}(hg:Gl X "enumerate") (hm:X.mg "enumerate" =none) (ha:PA X [a] ta) (hs:starEach [a] X.env=[(false,eval a X.env)]:=by rfl):
  PI X (.Tuple elts x1 tpos) (.Call (.Name "enumerate" p) [a] [] pos) (zre X.K ta):=by
 intro pins s σ H R I h;refine Call_ (zcK I hg hm (u:=.type "enumerate") (by rfl) (PyProof.Rows.callWith_type1 (thn (ha pos pins s σ H _ I h) λus s1 ⟨vs,H1,I1,r1,q1⟩=>?_) (by rw[hs];rfl) rfl));obtain⟨p1,xs,rfl,hp,q⟩:=q1;obtain⟨u,rfl,ru⟩:=Vals.one r1;cases (show u=Value.ref _ from ru);obtain⟨its,r1,T1,z1⟩:=I1.list hp;refine call_enumerate_list T1.isList λg eg ig sz up=>wpAny_pyIter_enum eg ?_;refine⟨_,_,_,_,H1,rfl,I1.kept (t':=s1.toks) up,zme (show s1.heap.objs.size+1≠s1.heap.objs.size by omega),⟨⟨_,eg⟩,ig⟩,λb hb=>?_,q⟩;have hb':s1.heap.objs.size<=b:=by
  simp only[List.mem_cons,List.not_mem_nil,or_false] at hb;rcases hb with rfl | rfl
  ·exact JG _ _
  ·exact Jb _
 exact I1.fpOk hb' (I1.hok.fresh hb')
theorem znF {K:QA}{p:Addr}{xs:QQ}{g:TG}{tb:TS}{D:Ends}{σ:St}{H:Hp}(Pv:Nat->St->Hp->Prop)(h0:Pv 0 σ H)(hl:∀i σ H,Pv i σ H->SqL K H p xs)
  (hs:∀i x T σ H,xs[i]? =some x->H T=none->Pv i σ H->g (.ref T) σ (upd H T (.tup [.int i,x])) fun σ2 H2=>tb {D with nx:=Pv (i+1),ct:=Pv (i+1),bk:=D.nx} σ2 H2) (hd:∀σ H,Pv xs.length σ H->D.nx σ H):
  ∃W:Nat->Nat->St->Hp->Prop,(∃m,W 0 m σ H)/\∀i m σ H,W i m σ H->
   ((Ite K p xs).stop i H/\D.nx σ H)\/((Ite K p xs).go i H/\∃N:St->Hp->Prop,(∀σ' H',N σ' H'->∃m',m' < m/\W (i+1) m' σ' H')/\∀x H',(Ite K p xs).yld i H x H'->g x σ H' fun σ2 H2=>tb {D with nx:=N,ct:=N,bk:=D.nx} σ2 H2):=by
 refine⟨λi m σ H=>m=xs.length - i/\i<=xs.length/\Pv i σ H,⟨_,rfl,Nat.zero_le _,h0⟩,?_⟩;rintro i m σ H ⟨rfl,hi,p⟩;have q:=hl i σ H p;by_cases hlt:i < xs.length
 ·refine .inr ⟨⟨q,hlt⟩,Pv (i+1),fun σ' H' p'=>⟨_,by omega,rfl,hlt,p'⟩,λx H' y=>?_⟩;obtain⟨T,a,hT,e1,rfl,rfl⟩:=y;exact hs i a T σ H e1 hT p
 ·have e:i=xs.length:=by omega
  subst e;exact .inl ⟨⟨q,Jb _⟩,hd σ H p⟩
end
end L2
namespace Pv
open PySem L2
noncomputable abbrev zkT:Stmt:=top 43
theorem zjV:zr ["vault","way","key","root","more","node"] ["vault","way","key","root","more"] (zh zkT):=L2.fsc (by decide+kernel)
noncomputable abbrev zfJ:Stmt:=top 44
theorem za1:zr ["vault","way","key","root","count","left","left_count","right","right_count","node"] ["vault","way","key","root","count"] (zh zfJ):=L2.fsc (by decide+kernel)
noncomputable abbrev zeQ:Stmt:=top 45
theorem zdI:zr ["way","key","number","node"] ["way","key"] (zh zeQ):=L2.fsc (by decide+kernel)
noncomputable abbrev sput:Stmt:=top 46
theorem zfk:zr ["vault","root","key","worth","way","own","new","place","trees","count"] ["vault","root","key","worth"] (zh sput):=L2.fsc (by decide+kernel)
theorem RepL.take {H:Hp}:∀{ts:List Th} {vs:QQ} (n:Nat),RepL H ts vs->RepL H (ts.take n) (vs.take n)
 | _,_,0,_=>by rw[List.take_zero,List.take_zero];exact .nil
 | _,_,n+1,.nil=>by rw[List.take_nil,List.take_nil];exact .nil
 | _,_,n+1,.cons h r=>.cons h (RepL.take n r)
theorem RepL.drop {H:Hp}:∀{ts:List Th} {vs:QQ} (n:Nat),RepL H ts vs->RepL H (ts.drop n) (vs.drop n)
 | _,_,0,r=>r
 | _,_,n+1,.nil=>by rw[List.drop_nil,List.drop_nil];exact .nil
 | _,_,n+1,.cons h r=>RepL.drop n r
theorem zmO {xs:QQ}{n:Nat}(h:n<=xs.length):cutV xs none (some (n:Int))=xs.take n:=by
 unfold cutV;rw[HT.sIx_none,HT.sIx_nat,Nat.min_eq_left h]
 rfl
theorem zhK {xs:QQ}{n:Nat}(h:n<=xs.length):cutV xs (some (n:Int)) none=xs.drop n:=by unfold cutV;rw[HT.sIx_none,HT.sIx_nat,Nat.min_eq_left h];exact List.take_of_length_le (by rw[List.length_drop];exact Jb _)
theorem zkC {xs:QQ}{n:Nat}(h:xs.length=n+1):cutV xs none (some (-1))=xs.take n:=by unfold cutV;rw[HT.sIx_none];show(xs.drop 0).take (HT.sIx xs.length xs.length (some (-1)) - 0)=_;rw[List.drop_zero,Nat.sub_zero,h];congr 1;unfold HT.sIx;simp;omega
theorem joinM {c:Bool}{A B N:Prop}(a:c=true->N->A)(b:c=false->N->B)(rest:N):if c=true then A else B:=ifB (λh=>a h rest) (λh=>b h rest)
theorem zgK {nd:Nd}(g:Good nd.th):Good nd.k/\Good nd.w:=by have h1:=zdt g;have h2:1+(nodes nd.k+(nodes nd.w+(1+(1+(1+0)))))<=80:=g.nd;have h3:Wf nd.k/\Wf nd.w:=⟨g.wf.2.1,g.wf.2.2.1⟩;exact⟨⟨h3.1,by omega,by omega⟩,⟨h3.2,by omega,by omega⟩⟩
noncomputable def zbE (x:Th)(more:Int):List Nd->Int->Pg Int
 | [],n=>.ret n
 | nd::r,n=>.lay (zaB nd (zcW nd.k x) n (nd.c+more)).th (zbE x more r (zE (zaB nd (zcW nd.k x) n (nd.c+more)).th))
noncomputable def zfq (x:Th):List Nd->Int->Int->Int->Int->Pg (Int ×Int)
 | [],l,_,r,_=>.ret (l,r)
 | nd::t,l,lc,r,rc=>if zf nd.k x=true then .lay (zaB nd 3 l (nd.c - rc)).th (zfq x t (zE (zaB nd 3 l (nd.c - rc)).th) (nd.c - rc) r rc)
  else .lay (zaB nd 2 r (nd.c - lc)).th (zfq x t l lc (zE (zaB nd 2 r (nd.c - lc)).th) (nd.c - lc))
noncomputable def za6 (x:Th):List Nd->Nat
 | []=>0
 | nd::r=>if zaF x nd.k=true then 0 else za6 x r+1
theorem zhq (x:Th):∀ns:List Nd,za6 x ns<=ns.length
 | []=>Jb _
 | nd::r=>by
  unfold za6;split
  ·exact Nat.zero_le _
  ·exact Nat.succ_le_succ (zhq x r)
noncomputable def zen (ns:List Nd)(i:Nat):Int:=match ns[i]? with
 | some nd=>nd.c
 | none=>0
noncomputable def putN (x wo:Th)(ns:List Nd):Pg Int:=(zfq x (ns.drop (za6 x ns)).reverse 0 0 0 0).bind λlr=>
 .lay (Nd.mk x wo lr.1 lr.2 (zen ns (za6 x ns)+1)).th (zbE x 1 (ns.take (za6 x ns)).reverse (zE (Nd.mk x wo lr.1 lr.2 (zen ns (za6 x ns)+1)).th))
noncomputable def putO (x wo:Th)(ns:List Nd)(own:Nd):Pg Int:=.lay (Nd.mk x wo own.l own.r own.c).th (zbE x 0 ns.dropLast.reverse (zE (Nd.mk x wo own.l own.r own.c).th))
noncomputable def zeg (x wo:Th)(ns:List Nd):Pg Int:=match ns.getLast? with
 | none=>putN x wo ns
 | some own=>if own.k=x then putO x wo ns own else putN x wo ns
noncomputable def putP (n:Int)(x wo:Th):Pg Int:=(wayP x 301 n 301).bind (zeg x wo)
def zpL (H:Hp)(y:Int ×Int)(v:V):Prop:=∃p,v=.ref p/\H p=some (.tup [.int y.1,.int y.2])
def zfE (VR:VRT)(CN CB CC:Addr):Sp:=λvs H Q E=>∃(a pw:Addr) (D:QO) (s:Vst) (ws:QQ) (ns:List Nd) (x:Th) (vx:V) (n more:Int),vs=[.ref a,.ref pw,vx,.int n,.int more]/\VR H a D s/\H pw=some (.lst ws)/\RepL H (ns.map Nd.th) ws/\(∀nd∈ns,Good nd.th)/\Rep H x vx/\Out VR CN CB CC a D (zbE x more ns.reverse n) s IntR H Q E
def zeN (VR:VRT)(CN CB CC:Addr):Sp:=λvs H Q E=>∃(a pw:Addr) (D:QO) (s:Vst) (ws:QQ) (ns:List Nd) (x:Th) (vx:V) (n m:Int),vs=[.ref a,.ref pw,vx,.int n,.int m]/\VR H a D s/\H pw=some (.lst ws)/\RepL H (ns.map Nd.th) ws/\(∀nd∈ns,Good nd.th)/\Rep H x vx/\Out VR CN CB CC a D (zfq x ns.reverse n m 0 0) s zpL H Q E
def zgq:Sp:=λvs H Q _=>∃(pw:Addr) (ws:QQ) (ns:List Nd) (x:Th) (vx:V),vs=[.ref pw,vx]/\H pw=some (.lst ws)/\RepL H (ns.map Nd.th) ws/\(∀nd∈ns,Good nd.th)/\Good x/\Rep H x vx/\∀H',Same H H'->Q (.int (za6 x ns:Int)) H'
def zgl (VR:VRT)(CN CB CC:Addr):Sp:=λvs H Q E=>∃(a:Addr) (D:QO) (s:Vst) (n:Int) (x wo:Th) (vx vw:V),vs=[.ref a,.int n,vx,vw]/\VR H a D s/\Rep H x vx/\Good x/\Rep H wo vw/\Out VR CN CB CC a D (putP n x wo) s IntR H Q E
theorem zjX {α:Type}{f:α->Th}{ns:List α}{ws:QQ}{H:Hp}{j:Nat}{y:V}(r:RepL H (ns.map f) ws)(hj:j < ws.length)(hy:ws.reverse[j]? =some y):∃nd,nd∈ns/\ns.reverse.drop j=nd::ns.reverse.drop (j+1)/\Rep H (f nd) y:=by
 have hl:ws.length=ns.length:=by rw[r.len,List.length_map]
 have hr:j < ns.reverse.length:=by rw[List.length_reverse];omega +splitNatSub
 rw[List.getElem?_reverse hj] at hy;have hn:ns[ns.length - 1 - j]? =some (ns[ns.length - 1 - j]'(by omega +splitNatSub)):=List.getElem?_eq_getElem (by omega +splitNatSub);refine⟨ns[ns.length - 1 - j]'(by omega +splitNatSub),Jp _,?_,r.at (ws.length - 1 - j) _ _ hy (by rw[hl,List.getElem?_map,hn];rfl)⟩;rw[Jo hr,List.getElem_reverse]
section
variable {P:Program}{w:World}{K:QA}{mg:QB}{base:Heap}{VR:VRT}{C CC CN CB:Addr}{x:Str}{t1 t2 t3 t4 t5 t6 t7:Tok}
theorem zns (I:VI C VR)(D:Dfn K mg "hung" zkT ["vault","way","key","root","more"]) (zeF:Mt P w K mg base (CX1 P w) C "lay" 14 ["self","thing"] (zcH VR CC)) (c_C:Cls K C) (zbb:Fn P w K mg base "with_tree" 1 ["node","side","root","count"] zee) (zcz:Fn P w K mg base "side_of" 21 ["node","key"] zes) (zQ:mg "COUNT" =some (.int 4 t5)) (za8:mg "reversed" =none):
  FnX P w K mg base "hung" 22 ["vault","way","key","root","more"] (zfE VR CN CB CC):=by
 refine D.okX (k:=21) zjV (λvs H Q E h=>?_) (λf cdv A outer s H vs Q E hr h=>?_)
 ·obtain⟨a,pw,D,s,ws,ns,x,vx,n,more,rfl,_⟩:=h;rfl
 obtain⟨a,pw,D,s,ws,ns,x,vx,n,more,rfl,vs,ew,rw,gd,rx,h⟩:=h;have hl:ws.length=ns.length:=by rw[rw.len,List.length_map]
 refine⟨_,(zb (zaH PassesOwn.leaving rfl (zjI (by rfl) za8 (pv 1)) (zah (i:=5) zjV.nd rfl (Or.inl rfl))
 (zd (zq (i:=3) zjV.nd rfl (Or.inl rfl) (zb5 (pv 0) c_C zeF hr (by omega) zK (za (zF zbb hr (by omega) (by rfl) (za (pv 5) (za (zF zcz hr (by omega) (by rfl) (za (pv 5) (za (pv 2) zc))) (za (pv 3) (za (zC zar (zt zy (pv 5) (zw (v:=.int 4) (by rfl) zQ ⟨_,rfl⟩) (λ_ _=>rfl)) (pv 4)) zc))))) zc)))))
 (zd (zm (pv 3)))),?_⟩
 refine⟨_,rfl,pw,ws,rfl,SqL.of ew,?_⟩;refine zh9 (λj σ H'=>∃(s1:Vst) (n:Int) (k5:Option V),(zbE x more (ns.reverse.drop j) n).wp s1 (OutQ VR a D IntR H Q) (OutE VR CN CB CC a D H E)/\σ=[some (.ref a),some (.ref pw),some vx,some (.int n),some (.int more),k5]/\Frm D H H'/\VR H' a D s1) ⟨s,n,_,h,rfl,Frm.refl,vs⟩ ?_ ?_ ?_
 ·rintro j σ H' ⟨s1,n,k5,_,rfl,fr,_⟩;exact SqL.of (I.lst vs fr ew)
 ·rintro j y σ H' hj hy ⟨s1,n,k5,h,rfl,fr,vs1⟩;obtain⟨nd,hm,ed,rl⟩:=zjX rw hj hy;have gn:=gd nd hm;rw[ed] at h;obtain⟨h0,gN,h1,h2⟩:=h;have tk:=I.tups vs fr;have rl':=rl.keep tk;obtain⟨p,vk,vw,rfl,ea,rk,rw'⟩:=zO rl';obtain⟨dx,fs,eo,_,n2⟩:=I.ins vs1;refine⟨_,rfl,a,dx,fs,rfl,eo,n2,_,rfl,_,rfl,_,rfl,_,_,nd,x,rfl,rl',rx.keep tk,(zdt gn).1,λH1 s1'=>?_⟩;refine⟨_,rfl,_,rfl,p,_,_,_,rfl,rfl,SqT.of (s1' _ _ ea),rfl,_,rfl,_,_,rfl,rfl,_,nd,_,_,_,rfl,rl'.keep (Same.tups s1'),λp2 H2 s2 r2=>?_⟩;have s12:Same H' H2:=λb o e=>s2 b o (s1' b o e);have f12:=fr.trans (Frm.of s12);exact⟨a,D,s1,_,_,rfl,I.same vs1 s12,h0,r2,gN,λH3 st f3 vs3=>⟨_,_,_,h1 st,rfl,f12.trans f3,vs3⟩,λu x' v1 v2 H3 st f3=>h2 u st x' v1 v2 H3 (f12.trans f3)⟩
 ·rintro σ H' ⟨s1,n,k5,h,rfl,fr,vs1⟩;rw[List.drop_of_length_le (by rw[List.length_reverse];omega)] at h;exact⟨_,rfl,h _ H' fr vs1 rfl⟩
theorem zkc (I:VI C VR)(D:Dfn K mg "parted" zfJ ["vault","way","key","root","count"]) (zeF:Mt P w K mg base (CX1 P w) C "lay" 14 ["self","thing"] (zcH VR CC)) (c_C:Cls K C) (zbb:Fn P w K mg base "with_tree" 1 ["node","side","root","count"] zee) (zcz:Fn P w K mg base "side_of" 21 ["node","key"] zes) (zQ:mg "COUNT" =some (.int 4 t5)) (zak:mg "LEFT" =some (.int 2 t3)) (zaa:mg "RIGHT" =some (.int 3 t4)) (za8:mg "reversed" =none):
  FnX P w K mg base "parted" 22 ["vault","way","key","root","count"] (zeN VR CN CB CC):=by
 refine D.okX (k:=21) za1 (λvs H Q E h=>?_) (λf cdv A outer s H vs Q E hr h=>?_)
 ·obtain⟨a,pw,D,s,ws,ns,x,vx,n,m,rfl,_⟩:=h;rfl
 obtain⟨a,pw,D,s,ws,ns,x,vx,n,m,rfl,vs,ew,rw,gd,rx,h⟩:=h;have hl:ws.length=ns.length:=by rw[rw.len,List.length_map]
 refine⟨_,(zb (zq (i:=5) za1.nd rfl (Or.inl rfl) (pv 3))
 (zb (zq (i:=6) za1.nd rfl (Or.inl rfl) (pv 4))
 (zb (zq (i:=7) za1.nd rfl (Or.inl rfl) zg)
 (zb (zq (i:=8) za1.nd rfl (Or.inl rfl) zg)
 (zb (zaH PassesOwn.leaving rfl (zjI (by rfl) za8 (pv 1)) (zah (i:=9) za1.nd rfl (Or.inl rfl))
 (zd (zL (zB zcu (zF zcz hr (by omega) (by rfl) (za (pv 9) (za (pv 2) zc))) (zw (v:=.int 3) (by rfl) zaa ⟨_,rfl⟩) (zA _))
 (zb (zq (i:=6) za1.nd rfl (Or.inl rfl) (zC zbf (zt zy (pv 9) (zw (v:=.int 4) (by rfl) zQ ⟨_,rfl⟩) (λ_ _=>rfl)) (pv 8)))
 (zd (zq (i:=5) za1.nd rfl (Or.inl rfl) (zb5 (pv 0) c_C zeF hr (by omega) zK (za (zF zbb hr (by omega) (by rfl) (za (pv 9) (za (zw (v:=.int 3) (by rfl) zaa ⟨_,rfl⟩) (za (pv 5) (za (pv 6) zc))))) zc)))))
 (zb (zq (i:=8) za1.nd rfl (Or.inl rfl) (zC zbf (zt zy (pv 9) (zw (v:=.int 4) (by rfl) zQ ⟨_,rfl⟩) (λ_ _=>rfl)) (pv 6)))
 (zd (zq (i:=7) za1.nd rfl (Or.inl rfl) (zb5 (pv 0) c_C zeF hr (by omega) zK (za (zF zbb hr (by omega) (by rfl) (za (pv 9) (za (zw (v:=.int 2) (by rfl) zak ⟨_,rfl⟩) (za (pv 7) (za (pv 8) zc))))) zc))))))))
 (zd (zm (zau (za (pv 5) (za (pv 7) zc)))))))))),?_⟩
 refine⟨_,rfl,_,rfl,_,rfl,pw,ws,rfl,SqL.of ew,?_⟩;refine zh9 (λj σ H'=>∃(s1:Vst) (l lc r rc:Int) (k9:Option V),(zfq x (ns.reverse.drop j) l lc r rc).wp s1 (OutQ VR a D zpL H Q) (OutE VR CN CB CC a D H E)/\σ=[some (.ref a),some (.ref pw),some vx,some (.int n),some (.int m),some (.int l),some (.int lc),some (.int r),some (.int rc),k9]/\Frm D H H'/\VR H' a D s1) ⟨s,n,m,0,0,_,h,rfl,Frm.refl,vs⟩ ?_ ?_ ?_
 ·rintro j σ H' ⟨s1,l,lc,r,rc,k9,_,rfl,fr,_⟩;exact SqL.of (I.lst vs fr ew)
 ·rintro j y σ H' hj hy ⟨s1,l,lc,r,rc,k9,h,rfl,fr,vs1⟩;obtain⟨nd,hm,ed,rl⟩:=zjX rw hj hy;have gn:=gd nd hm;rw[ed] at h;unfold zfq at h;have tk:=I.tups vs fr;have rl':=rl.keep tk;obtain⟨p,vk,vw,rfl,ea,rk,rw'⟩:=zO rl';refine⟨_,rfl,_,rfl,_,_,nd,x,rfl,rl',rx.keep tk,(zdt gn).1,λH1 s1'=>⟨rfl,_,rfl,?_⟩⟩;rw[zaN];have vs2:=I.same vs1 s1';obtain⟨dx,fs,eo,_,n2⟩:=I.ins vs2;by_cases c:zf nd.k x=true
  ·have e3:zcW nd.k x=3:=if_pos c;rw[if_pos c] at h;obtain⟨h0,gN,h1,h2⟩:=h;refine ifT (decide_eq_true e3) ?_;refine⟨_,rfl,p,_,_,_,rfl,rfl,SqT.of (s1' _ _ ea),rfl,_,rfl,_,_,rfl,rfl,?_⟩;refine⟨_,rfl,a,dx,fs,rfl,eo,n2,_,rfl,_,rfl,_,rfl,_,nd,_,_,_,rfl,rl'.keep (Same.tups s1'),λp2 H2 s2 r2=>?_⟩;have f12:Frm D H H2:=fr.trans ((Frm.of s1').trans (Frm.of s2));exact⟨a,D,s1,_,_,rfl,I.same vs2 s2,h0,r2,gN,λH3 st f3 vs3=>⟨_,_,_,_,_,_,h1 st,rfl,f12.trans f3,vs3⟩,λu x' v1 v2 H3 st f3=>h2 u st x' v1 v2 H3 (f12.trans f3)⟩
  ·have e3:zcW nd.k x=2:=if_neg c;rw[if_neg c] at h;obtain⟨h0,gN,h1,h2⟩:=h;refine ifF (Jd (by rw[e3];decide)) ?_;refine⟨_,rfl,p,_,_,_,rfl,rfl,SqT.of (s1' _ _ ea),rfl,_,rfl,_,_,rfl,rfl,?_⟩;refine⟨_,rfl,a,dx,fs,rfl,eo,n2,_,rfl,_,rfl,_,rfl,_,nd,_,_,_,rfl,rl'.keep (Same.tups s1'),λp2 H2 s2 r2=>?_⟩;have f12:Frm D H H2:=fr.trans ((Frm.of s1').trans (Frm.of s2));exact⟨a,D,s1,_,_,rfl,I.same vs2 s2,h0,r2,gN,λH3 st f3 vs3=>⟨_,_,_,_,_,_,h1 st,rfl,f12.trans f3,vs3⟩,λu x' v1 v2 H3 st f3=>h2 u st x' v1 v2 H3 (f12.trans f3)⟩
 ·rintro σ H' ⟨s1,l,lc,r,rc,k9,h,rfl,fr,vs1⟩;rw[List.drop_of_length_le (by rw[List.length_reverse];omega)] at h;refine⟨_,rfl,_,rfl,szl (show 2<=1000 by decide),λp hp=>?_⟩;have s2:=zk (o:=.tup [.int l,.int r]) (Same.refl H') hp;exact h _ _ (fr.trans (Frm.of s2)) (I.same vs1 s2) ⟨p,rfl,zj⟩
theorem zmh (D:Dfn K mg "place_in" zeQ ["way","key"]) (zeG:Fn P w K mg base "above" 21 ["key","other"] zfL) (zaA:mg "KEY" =some (.int 0 t1)) (zdm:mg "enumerate" =none) (zP:mg "len" =none):Fn P w K mg base "place_in" 22 ["way","key"] zgq:=by
 refine D.ok (k:=21) zdI (λvs H Q E h=>?_) (λf cdv A outer s H vs Q E hr h=>?_)
 ·obtain⟨pw,ws,ns,x,vx,rfl,_⟩:=h;rfl
 obtain⟨pw,ws,ns,x,vx,rfl,ew,rw,gd,gx,rx,q⟩:=h;have hl:ws.length=ns.length:=by rw[rw.len,List.length_map]
 refine⟨_,(zb (zaH PassesOwn.never rfl (zoE (by rfl) zdm (za (pv 0) zc)) (zng rfl (zd9 (zah (i:=2) zdI.nd rfl (Or.inl rfl)) (zd9 (zah (i:=3) zdI.nd rfl (Or.inl rfl)) zk1)))
 (zd (zL (zai (zF zeG hr (by omega) (by rfl) (za (pv 1) (za (zt zy (pv 3) (zw (v:=.int 0) (by rfl) zaA ⟨_,rfl⟩) (λ_ _=>rfl)) zc))))
 (zd (zm (pv 2)))
 zu)))
 (zd (zm (zH (zG) (by rfl) zP (by rfl) (za (pv 0) zc))))),?_⟩
 refine⟨_,rfl,pw,ws,rfl,SqL.of ew,?_⟩;refine znF (λi σ H'=>∃k2 k3,σ=[some (.ref pw),some vx,k2,k3]/\Same H H'/\za6 x ns=i+za6 x (ns.drop i)) ⟨_,_,rfl,Same.refl _,by rw[Nat.zero_add];rfl⟩ ?_ ?_ ?_
 ·rintro i σ H' ⟨k2,k3,rfl,sm,_⟩;exact SqL.of (sm _ _ ew)
 ·rintro i y U σ H' hy hU ⟨k2,k3,rfl,sm,hp⟩;have hi:i < ws.length:=(List.getElem?_eq_some_iff.mp hy).1;have hn:ns[i]? =some (ns[i]'(by omega)):=List.getElem?_eq_getElem (by omega);have rl:=rw.at i y _ hy (by rw[List.getElem?_map,hn];rfl);have gn:=gd _ (Jp (show i < ns.length by omega));have ed:ns.drop i=ns[i]'(by omega)::ns.drop (i+1):=Jo (by omega);generalize ns[i]'(by omega)=nd at rl gn ed;have sm':Same H (upd H' U (.tup [.int i,y])):=zk sm hU;have eU:upd H' U (.tup [.int i,y]) U=some (.tup [.int i,y]):=zj;generalize upd H' U (.tup [.int i,y])=H1 at sm' eU;obtain⟨p,vk,vw,rfl,ea,rk,_⟩:=zO rl;refine⟨U,_,rfl,SqT.of eU,rfl,_,_,rfl,_,_,rfl,rfl,?_⟩;refine⟨_,rfl,_,rfl,p,_,_,_,rfl,rfl,SqT.of (sm' _ _ ea),rfl,x,nd.k,_,_,rfl,rx.keep (Same.tups sm'),rk.keep (Same.tups sm'),gx,(zgK gn).1,λH2 s2=>⟨_,rfl,?_⟩⟩;have s02:Same H H2:=λb o e=>s2 b o (sm' b o e);have e0:za6 x (ns.drop i)=if zaF x nd.k=true then 0 else za6 x (ns.drop (i+1))+1:=by rw[ed];rfl
  cases z:zaF x nd.k with
  | true=>rw[if_pos z] at e0;refine ifT rfl ⟨_,rfl,?_⟩;have:=q H2 s02;rw[hp,e0] at this;exact this
  | false=>rw[if_neg (by rw[z];exact Jh)] at e0;exact ifF rfl ⟨_,_,rfl,s02,by omega⟩
 ·rintro σ H' ⟨k2,k3,rfl,sm,hp⟩;refine⟨_,rfl,pw,_,rfl,.inl (SqL.of (sm _ _ ew)),?_⟩;rw[List.drop_of_length_le (by omega)] at hp;have:=q H' sm;rw[hp] at this;exact this
theorem zoX (I:VI C VR)(D:Dfn K mg "put" sput ["vault","root","key","worth"]) (zbV:FnX P w K mg base "way_to" 22 ["vault","root","key"] (zf2 VR CN CB CC)) (zcA:Fn P w K mg base "ends_at" 1 ["way","key"] (zeb K)) (zeF:Mt P w K mg base (CX1 P w) C "lay" 14 ["self","thing"] (zcH VR CC)) (c_C:Cls K C) (ziu:FnX P w K mg base "hung" 22 ["vault","way","key","root","more"] (zfE VR CN CB CC)) (zoc:FnX P w K mg base "parted" 22 ["vault","way","key","root","count"] (zeN VR CN CB CC))
  (zke:Fn P w K mg base "place_in" 22 ["way","key"] zgq) (zQ:mg "COUNT" =some (.int 4 t5)) (zak:mg "LEFT" =some (.int 2 t3)) (zaa:mg "RIGHT" =some (.int 3 t4)) (zP:mg "len" =none):FnX P w K mg base "put" 23 ["vault","root","key","worth"] (zgl VR CN CB CC):=by
 refine D.okX (k:=22) zfk (λvs H Q E h=>?_) (λf cdv A outer s H vs Q E hr h=>?_)
 ·obtain⟨a,D,s,n,x,wo,vx,vw,rfl,_⟩:=h;rfl
 obtain⟨a,D,s,n,x,wo,vx,vw,rfl,vs,rx,gx,rw0,h⟩:=h;unfold Out putP at h;rw[Pg.wp_bind] at h;refine⟨_,(zb (zq (i:=4) zfk.nd rfl (Or.inl rfl) (zW zbV hr (by omega) (by rfl) zK (za (pv 0) (za (pv 1) (za (pv 2) zc)))))
 (zb (zL (zai (zF zcA hr (by omega) (by rfl) (za (pv 4) (za (pv 2) zc))))
 (zb (zq (i:=5) zfk.nd rfl (Or.inl rfl) (zt zN (pv 4) (zdc zbK zg) (λ_ _=>rfl)))
 (zb (zq (i:=6) zfk.nd rfl (Or.inl rfl) (zb5 (pv 0) c_C zeF hr (by omega) zK (za (zau (za (pv 2) (za (pv 3) (za (zt zy (pv 5) (zw (v:=.int 2) (by rfl) zak ⟨_,rfl⟩) (λ_ _=>rfl)) (za (zt zy (pv 5) (zw (v:=.int 3) (by rfl) zaa ⟨_,rfl⟩) (λ_ _=>rfl)) (za (zt zy (pv 5) (zw (v:=.int 4) (by rfl) zQ ⟨_,rfl⟩) (λ_ _=>rfl)) zc)))))) zc)))
 (zd (zm (zW ziu hr (by omega) (by rfl) zK (za (pv 0) (za (zaM zbq (pv 4) zb3 (zaK (zdc zbK zg))) (za (pv 2) (za (pv 6) (za zg zc))))))))))
 zu)
 (zb (zq (i:=7) zfk.nd rfl (Or.inl rfl) (zF zke hr (by omega) (by rfl) (za (pv 4) (za (pv 2) zc))))
 (zb (zq (i:=8) zfk.nd rfl (Or.inl rfl) (zW zoc hr (by omega) (by rfl) zK (za (pv 0) (za (zaM zbq (pv 4) (zaK (pv 7)) zb3) (za (pv 2) (za zg (za zg zc)))))))
 (zb (zq (i:=9) zfk.nd rfl (Or.inl rfl) (zc3 (zB zcY (pv 7) (zH (zG) (by rfl) zP (by rfl) (za (pv 4) zc)) (zA _)) (zt zy (zt zN (pv 4) (pv 7) (λ_ _=>rfl)) (zw (v:=.int 4) (by rfl) zQ ⟨_,rfl⟩) (λ_ _=>rfl)) zg))
 (zb (zq (i:=6) zfk.nd rfl (Or.inl rfl) (zb5 (pv 0) c_C zeF hr (by omega) zK (za (zau (za (pv 2) (za (pv 3) (za (zt zy (pv 8) zg (λ_ _=>rfl)) (za (zt zy (pv 8) zg (λ_ _=>rfl)) (za (zC zar (pv 9) zg) zc)))))) zc)))
 (zd (zm (zW ziu hr (by omega) (by rfl) zK (za (pv 0) (za (zaM zbq (pv 4) zb3 (zaK (pv 7))) (za (pv 2) (za (pv 6) (za zg zc)))))))))))))),?_⟩
 refine⟨_,rfl,_,rfl,_,rfl,a,D,s,n,x,vx,rfl,vs,rx,gx.dp,Pg.wp_mono (λns s1 h1 v H1 f1 vs1 rn=>?_) (λ_ _ z=>z) h⟩;clear h;obtain⟨pw,ws,rfl,ew,rwy,gd,hl3⟩:=rn;have hl:ws.length=ns.length:=by rw[rwy.len,List.length_map]
 have rx1:=rx.keep (I.tups vs f1);have rw1:=rw0.keep (I.tups vs f1);refine⟨_,rfl,_,rfl,pw,ws,ns,x,vx,rfl,SqL.of ew,rwy,gd,rx1,_,rfl,?_⟩;have new:zdE ns x=false->(putN x wo ns).wp s1 (OutQ VR a D IntR H Q) (OutE VR CN CB CC a D H E):=λz=>by
  have h2:(zeg x wo ns).wp s1 (OutQ VR a D IntR H Q) (OutE VR CN CB CC a D H E):=h1;unfold zeg at h2;unfold zdE at z;cases y:ns.getLast? with
  | none=>rw[y] at h2;exact h2
  | some own=>
   rw[y] at h2 z;have z2:eqT own.k x=false:=z;have z':own.k≠x:=λe=>by rw[ze1 e] at z2;cases z2
   have h3:(if own.k=x then putO x wo ns own else putN x wo ns).wp s1 (OutQ VR a D IntR H Q) (OutE VR CN CB CC a D H E):=h2;rw[if_neg z'] at h3;exact h3
 cases z:zdE ns x with
 | true=>
  refine ifT rfl ?_;rcases JD ns with e | ⟨pre,nd,e⟩
  ·subst e;cases z
  rw[List.concat_eq_append] at e;subst e;have ek:nd.k=x:=by unfold zdE at z;rw[List.getLast?_concat] at z;exact(za3 _ _).mp z
  have h2:(zeg x wo (pre++ [nd])).wp s1 (OutQ VR a D IntR H Q) (OutE VR CN CB CC a D H E):=h1;unfold zeg at h2;rw[List.getLast?_concat] at h2;have h3:(if nd.k=x then putO x wo (pre++ [nd]) nd else putN x wo (pre++ [nd])).wp s1 (OutQ VR a D IntR H Q) (OutE VR CN CB CC a D H E):=h2;rw[if_pos ek] at h3;obtain⟨h0,gN,h4,h5⟩:=h3;rw[List.dropLast_concat] at h4;rw[List.map_append] at rwy;obtain⟨us,v,rfl,rus,rnd⟩:=rwy.unsnoc;obtain⟨p,vk,vw',rfl,ea,rk,_⟩:=zO rnd;have et:SqT K H1 p _:=SqT.of ea;obtain⟨dx,fs,eo,_,n2⟩:=I.ins vs1;refine⟨_,rfl,_,rfl,pw,_,_,_,rfl,rfl,SqL.of ew,zbh,?_⟩;refine⟨_,rfl,a,dx,fs,rfl,eo,n2,_,rfl,_,rfl,_,rfl,p,_,_,_,rfl,rfl,et,rfl,_,rfl,p,_,_,_,rfl,rfl,et,rfl,_,rfl,p,_,_,_,rfl,rfl,et,rfl,szl (show 5<=1000 by decide),λp2 hp2=>?_⟩;have r2:Rep (upd H1 p2 (.tup [vx,vw,.int nd.l,.int nd.r,.int nd.c])) (Nd.mk x wo nd.l nd.r nd.c).th (.ref p2):=(RepL.cons rx1 (.cons rw1 (.cons (.int _) (.cons (.int _) (.cons (.int _) .nil))))).new hp2;have s12:=zk (o:=.tup [vx,vw,.int nd.l,.int nd.r,.int nd.c]) (Same.refl H1) hp2;generalize upd H1 p2 (.tup [vx,vw,.int nd.l,.int nd.r,.int nd.c])=H2 at r2 s12;have vs2:=I.same vs1 s12;have f2:=f1.trans (Frm.of s12);refine⟨a,D,s1,_,_,rfl,vs2,h0,r2,gN,λH3 st f3 vs3=>?_,λu x' v1 v2 H3 st f3=>h5 u st x' v1 v2 H3 (f2.trans f3)⟩;have ew3:=I.lst vs2 f3 (s12 _ _ ew);have tk3:Tups H1 H3:=(Same.tups s12).trans (I.tups vs2 f3);refine⟨_,rfl,_,rfl,_,rfl,_,rfl,pw,_,rfl,SqL.of ew3,λpc hpc=>?_⟩;rw[zkC (n:=us.length) (by simp),List.take_left];have s34:=zk (o:=.lst us) (Same.refl H3) hpc;have ec:upd H3 pc (.lst us) pc=some (.lst us):=zj;generalize upd H3 pc (.lst us)=H4 at s34 ec;have f4:=(f2.trans f3).trans (Frm.of s34);have tk4:=tk3.trans (Same.tups s34);exact⟨_,rfl,_,rfl,a,pc,D,_,us,pre,x,vx,_,0,rfl,I.same vs3 s34,ec,rus.keep tk4,λy hy=>gd y (Jk _ hy),rx1.keep tk4,Pg.wp_mono (OutQ.on f4) (OutE.on f4) (h4 st)⟩
 | false=>
  have h2:=new z;refine ifF rfl ?_;clear new h1;unfold putN at h2;rw[Pg.wp_bind] at h2;have hpl:=zhq x ns;refine⟨_,rfl,_,rfl,pw,ws,ns,x,vx,rfl,ew,rwy,gd,gx,rx1,λH2 s2=>?_⟩;generalize za6 x ns=pl at hpl h2;have vs2:=I.same vs1 s2;have ew2:=s2 _ _ ew;have rwy2:=rwy.keep (Same.tups s2);have rx2:=rx1.keep (Same.tups s2);have rw2:=rw1.keep (Same.tups s2);refine⟨_,rfl,_,rfl,_,rfl,_,rfl,pw,_,rfl,SqL.of ew2,λpc hpc=>?_⟩;rw[zhK (by omega)];have s23:=zk (o:=.lst (ws.drop pl)) (Same.refl H2) hpc;have ec:upd H2 pc (.lst (ws.drop pl)) pc=some (.lst (ws.drop pl)):=zj;generalize upd H2 pc (.lst (ws.drop pl))=H3 at s23 ec;have rd:=(rwy2.keep (Same.tups s23)).drop pl;rw[<-List.map_drop] at rd;have vs3:=I.same vs2 s23;have f3:Frm D H H3:=f1.trans ((Frm.of s2).trans (Frm.of s23));refine⟨_,rfl,a,pc,D,s1,ws.drop pl,ns.drop pl,x,vx,0,0,rfl,vs3,ec,rd,λy hy=>gd y (List.mem_of_mem_drop hy),rx2.keep (Same.tups s23),Pg.wp_mono (λlr s4 h4 v H4 f4 vs4 rp=>?_) (OutE.on f3) h2⟩;obtain⟨pt,rfl,et⟩:=rp;have ew4:=I.lst vs3 f4 (s23 _ _ ew2);have tk24:Tups H2 H4:=(Same.tups s23).trans (I.tups vs3 f4);have rwy4:=rwy2.keep tk24;obtain⟨h0,gN,h5,h6⟩:=h4;refine⟨_,rfl,_,rfl,pw,_,rfl,.inl (SqL.of ew4),_,_,rfl,rfl,_,rfl,?_⟩;have key:pl < ns.length->∃p xs,atI ws (pl:Int)=some (.ref p)/\H4 p=some (.tup xs)/\atI xs 4=some (.int (zen ns pl)):=λhlt=>by have hv:ws[pl]? =some (ws[pl]'(by omega)):=List.getElem?_eq_getElem (by omega);have hn:ns[pl]? =some (ns[pl]'hlt):=List.getElem?_eq_getElem hlt;have rl:=rwy4.at pl _ _ hv (by rw[List.getElem?_map,hn];rfl);obtain⟨p,vk,vw',ev,ea,rk,_⟩:=zO rl;refine⟨p,_,by rw[zaT hv,ev],ea,?_⟩;unfold zen;rw[hn];rfl
  refine' joinM (λc hn=>?ja) (λc hn=>?jb) ?jr
  case ja=>have c':(pl:Int) < ((ws.length:Nat):Int):=Jt c;obtain⟨p,xs,e1,e2,e3⟩:=key (by clear hn;omega);exact⟨_,rfl,_,rfl,pw,_,_,_,rfl,rfl,SqL.of ew4,e1,p,_,_,_,rfl,rfl,SqT.of e2,e3,hn⟩
  case jb=>
   have c':¬(pl:Int) < ((ws.length:Nat):Int):=JC c;have hz:zen ns pl=0:=by unfold zen;rw[List.getElem?_eq_none (by clear hn;omega)]
   rw[hz] at hn;exact hn
  have et4:SqT K H4 pt [.int lr.1,.int lr.2]:=SqT.of et;obtain⟨dx4,fs4,eo4,_,n4⟩:=I.ins vs4;have rx4:=rx2.keep tk24;have rw4:=rw2.keep tk24;generalize zen ns pl=cn at gN h5 h6;refine⟨_,rfl,a,dx4,fs4,rfl,eo4,n4,_,rfl,_,rfl,_,rfl,pt,_,_,_,rfl,rfl,et4,rfl,_,rfl,pt,_,_,_,rfl,rfl,et4,rfl,_,rfl,_,_,rfl,rfl,szl (show 5<=1000 by decide),λp2 hp2=>?_⟩;have r5:Rep (upd H4 p2 (.tup [vx,vw,.int lr.1,.int lr.2,.int (cn+1)])) (Nd.mk x wo lr.1 lr.2 (cn+1)).th (.ref p2):=(RepL.cons rx4 (.cons rw4 (.cons (.int _) (.cons (.int _) (.cons (.int _) .nil))))).new hp2;have s45:=zk (o:=.tup [vx,vw,.int lr.1,.int lr.2,.int (cn+1)]) (Same.refl H4) hp2;generalize upd H4 p2 (.tup [vx,vw,.int lr.1,.int lr.2,.int (cn+1)])=H5 at r5 s45;have vs5:=I.same vs4 s45;have f5:Frm D H H5:=f3.trans (f4.trans (Frm.of s45));refine⟨a,D,s4,_,_,rfl,vs5,h0,r5,gN,λH6 st f6 vs6=>?_,λu x' v1 v2 H6 st f6=>h6 u st x' v1 v2 H6 (f5.trans f6)⟩;have ew6:=I.lst vs5 f6 (s45 _ _ ew4);have tk46:Tups H4 H6:=(Same.tups s45).trans (I.tups vs5 f6);refine⟨_,rfl,_,rfl,_,rfl,_,rfl,pw,_,rfl,SqL.of ew6,λpq hpq=>?_⟩;rw[zmO (by omega)];have s67:=zk (o:=.lst (ws.take pl)) (Same.refl H6) hpq;have eq7:upd H6 pq (.lst (ws.take pl)) pq=some (.lst (ws.take pl)):=zj;generalize upd H6 pq (.lst (ws.take pl))=H7 at s67 eq7;have rt:=(rwy4.keep (tk46.trans (Same.tups s67))).take pl;rw[<-List.map_take] at rt;have f7:=(f5.trans f6).trans (Frm.of s67);exact⟨_,rfl,_,rfl,a,pq,D,_,ws.take pl,ns.take pl,x,vx,_,1,rfl,I.same vs6 s67,eq7,rt,λy hy=>gd y (List.mem_of_mem_take hy),(rx4.keep tk46).keep (Same.tups s67),Pg.wp_mono (OutQ.on f7) (OutE.on f7) (h5 st)⟩
end
end Pv
namespace Pv
open PySem L2
open Tr
noncomputable def inR (a b:Th)(p:Th ×Th):Bool:=(decide (a=.non) || !zf p.1 a) && (decide (b=.non) || zf p.1 b)
noncomputable def rng (a b:Th)(ps:QH):List (Th ×Th):=ps.filter (inR a b)
noncomputable def zcM (a b:Th):Bool:= !decide (a=.non) && (!decide (b=.non) && !zf a b)
noncomputable def pend (a b:Th):List Tr->List (Th ×Th)
 | []=>[]
 | nil::st=>pend a b st
 | node _ k w r::st=>rng a b ((k,w)::r.ps)++pend a b st
noncomputable def Tr.ca (x:Th):Tr->Nat
 | nil=>0
 | node l k _ r=>if k=x then l.cnt else if zf k x=true then l.cnt+1+r.ca x else l.ca x
end Pv
namespace Pv
open PySem L2
noncomputable abbrev zeX:Stmt:=top 34
theorem zjM:zr ["low","high"] ["low","high"] (zh zeX):=L2.fsc (by decide+kernel)
noncomputable abbrev zbF:Stmt:=top 39
theorem za2:zr ["vault","root","key","many","node"] ["vault","root","key"] (zh zbF):=L2.fsc (by decide+kernel)
noncomputable abbrev zeA:Stmt:=top 40
theorem zhu:zr ["vault","root","low","high","many"] ["vault","root","low","high"] (zh zeA):=L2.fsc (by decide+kernel)
noncomputable abbrev snth:Stmt:=top 41
theorem zfy:zr ["vault","root","number","count","node","left"] ["vault","root","number"] (zh snth):=L2.fsc (by decide+kernel)
noncomputable abbrev zgV (p:Th ×Th):Th:=.tup [p.1,p.2]
theorem ze0 {t u:TS}{D:L2.Ends}{σ:L2.St}{H:Hp}(Pq:L2.St->Hp->Prop)(a:∀N:L2.St->Hp->Prop,(∀σ H,Pq σ H->N σ H)->t {D with nx:=N} σ H)(rest:∀σ H,Pq σ H->u D σ H):tSeq t u D σ H:=a (u D) rest
noncomputable def cntL (x:Th):List Nd->Int->Pg Int
 | [],m=>.ret m
 | nd::r,m=>if zf x nd.k=true then cntL x r m else(zej nd.l nd.c).bind λc=>cntL x r (m+c+(if nd.k=x then 0 else 1))
noncomputable def cntP (n:Int)(x:Th):Pg Int:=(wayP x 301 n 301).bind λns=>cntL x ns 0
noncomputable def zhS (n:Int)(lo:Th)(m:Int):Pg Int:=if lo=.non then .ret m else(cntP n lo).bind λk=>.ret (m - k)
noncomputable def zcq (n:Int)(lo hi:Th):Pg Int:=if zcM lo hi=true then .ret 0 else(if hi=.non then zej n 301 else cntP n hi).bind (zhS n lo)
noncomputable def nthL:Nat->Int->Int->Int->Pg Th
 | 0,_,_,_=>.bad
 | f+1,n,m,i=>if n=0 then .ret .non else(benP n m).bind λnd=>if nd.c<=i then .ret .non else(zej nd.l nd.c).bind λl=>
  if i=l then .ret (zgV (nd.k,nd.w)) else if i < l then nthL f nd.l nd.c i else nthL f nd.r nd.c (i - l - 1)
noncomputable def nthQ (n i:Int):Pg Th:=if i < 0 then .ret .non else nthL 301 n 301 i
def zeE:Sp:=λvs H Q _=>∃(a b:Th) (va vb:V),vs=[va,vb]/\Rep H a va/\Rep H b vb/\dep a<=8/\∀H',Same H H'->Q (.bl (zcM a b)) H'
def znG (VR:VRT)(CN CB CC:Addr):Sp:=λvs H Q E=>∃(a:Addr) (D:QO) (s:Vst) (n:Int) (x:Th) (vx:V),vs=[.ref a,.int n,vx]/\VR H a D s/\Rep H x vx/\dep x<=8/\Out VR CN CB CC a D (cntP n x) s IntR H Q E
def zbT (VR:VRT)(CN CB CC:Addr):Sp:=λvs H Q E=>∃(a:Addr) (D:QO) (s:Vst) (n:Int) (lo hi:Th) (vl vh:V),vs=[.ref a,.int n,vl,vh]/\VR H a D s/\Rep H lo vl/\Rep H hi vh/\dep lo<=8/\dep hi<=8/\Out VR CN CB CC a D (zcq n lo hi) s IntR H Q E
def zgk (VR:VRT)(CN CB CC:Addr):Sp:=λvs H Q E=>∃(a:Addr) (D:QO) (s:Vst) (n i:Int),vs=[.ref a,.int n,.int i]/\VR H a D s/\Out VR CN CB CC a D (nthQ n i) s ThR H Q E
section
variable {P:Program}{w:World}{K:QA}{mg:QB}{base:Heap}{VR:VRT}{C CC CN CB:Addr}{x:Str}{t1 t2 t3 t4 t5 t6 t7:Tok}
theorem zl0 (D:Dfn K mg "is_empty" zeX ["low","high"]) (zbl:Fn P w K mg base "ahead" 20 ["one","other"] (zcD 9)):Fn P w K mg base "is_empty" 21 ["low","high"] zeE:=by
 refine D.ok (k:=20) zjM (λvs H Q E h=>?_) (λf cdv A outer s H vs Q E hr h=>?_)
 ·obtain⟨a,b,va,vb,rfl,_⟩:=h;rfl
 obtain⟨a,b,va,vb,rfl,ra,rb,hd,q⟩:=h;refine⟨_,(zd (zm (zdM (zax zfN (pv 0) zaC (zA _)) (zdM (zax zfN (pv 1) zaC (zA _)) (ze6 (znC (zF zbl hr (by omega) (by rfl) (za (pv 0) (za (pv 1) zc))))))))),?_⟩;have e1:=zdq ra;have e2:=zdq rb;refine⟨_,rfl,rfl,_,rfl,?_⟩;rw[e1];unfold zcM at q;cases z:decide (a=.non) with
 | true=>rw[z] at q;exact ifF rfl (q H (Same.refl H))
 | false=>
  rw[z] at q;refine ifT rfl ⟨_,rfl,rfl,_,rfl,?_⟩;rw[e2];cases y:decide (b=.non) with
  | true=>rw[y] at q;exact ifF rfl (q H (Same.refl H))
  | false=>rw[y] at q;refine ifT rfl ⟨_,rfl,_,rfl,a,b,_,_,rfl,ra,rb,by omega,by omega,λH1 s1=>⟨_,rfl,q H1 s1⟩⟩
theorem zoF (I:VI C VR)(D:Dfn K mg "count_ahead" zbF ["vault","root","key"]) (zbV:FnX P w K mg base "way_to" 22 ["vault","root","key"] (zf2 VR CN CB CC)) (zbl:Fn P w K mg base "ahead" 20 ["one","other"] (zcD 9)) (zaR:FnX P w K mg base "size_beneath" 5 ["vault","root","count"] (zeD VR CN CB CC)) (zaA:mg "KEY" =some (.int 0 t1)) (zak:mg "LEFT" =some (.int 2 t3)) (zQ:mg "COUNT" =some (.int 4 t5)):
  FnX P w K mg base "count_ahead" 23 ["vault","root","key"] (znG VR CN CB CC):=by
 refine D.okX (k:=22) za2 (λvs H Q E h=>?_) (λf cdv A outer s H vs Q E hr h=>?_)
 ·obtain⟨a,D,s,n,x,vx,rfl,_⟩:=h;rfl
 obtain⟨a,D,s,n,x,vx,rfl,vs,rx,dx,h⟩:=h;unfold Out cntP at h;rw[Pg.wp_bind] at h;refine⟨_,(zb (zq (i:=3) za2.nd rfl (Or.inl rfl) zg)
 (zb (zaH PassesOwn.leaving rfl (zbG (zW zbV hr (by omega) (by rfl) zK (za (pv 0) (za (pv 1) (za (pv 2) zc))))) (zah (i:=4) za2.nd rfl (Or.inl rfl))
 (zb (zL (zai (zF zbl hr (by omega) (by rfl) (za (pv 2) (za (zt zy (pv 4) (zw (v:=.int 0) (by rfl) zaA ⟨_,rfl⟩) (λ_ _=>rfl)) zc))))
 (zd zi9)
 zu)
 (zb (zq (i:=3) za2.nd rfl (Or.inl rfl) (zC zar (pv 3) (zW zaR hr (by omega) (by rfl) zK (za (pv 0) (za (zt zy (pv 4) (zw (v:=.int 2) (by rfl) zak ⟨_,rfl⟩) (λ_ _=>rfl)) (za (zt zy (pv 4) (zw (v:=.int 4) (by rfl) zQ ⟨_,rfl⟩) (λ_ _=>rfl)) zc))))))
 (zd (zL (zB (zfQ hr) (zt zy (pv 4) (zw (v:=.int 0) (by rfl) zaA ⟨_,rfl⟩) (λ_ _=>rfl)) (pv 2) (zA _))
 (zd (zq (i:=3) za2.nd rfl (Or.inl rfl) (zC zar (pv 3) zg)))
 zu)))))
 (zd (zm (pv 3))))),?_⟩
 refine⟨_,rfl,_,rfl,_,rfl,a,D,s,n,x,vx,rfl,vs,rx,dx,Pg.wp_mono (λns s1 h1 v H1 f1 vs1 rn=>?_) (λ_ _ z=>z) h⟩;clear h;obtain⟨pw,ws,rfl,ew,rw,gd,hl3⟩:=rn;have hl:ws.length=ns.length:=by rw[rw.len,List.length_map]
 refine⟨pw,rfl,⟨ws,SqL.of ew⟩,?_⟩;refine zc4 (xs:=ws) (λi σ H'=>∃(s2:Vst) (m:Int) (k4:Option V),(cntL x (ns.drop i) m).wp s2 (OutQ VR a D IntR H Q) (OutE VR CN CB CC a D H E)/\σ=[some (.ref a),some (.int n),some vx,some (.int m),k4]/\Frm D H1 H'/\VR H' a D s2) ⟨s1,0,_,h1,rfl,Frm.refl,vs1⟩ ?_ ?_ ?_
 ·rintro i σ H' _ ⟨s2,m,k4,_,rfl,fr,_⟩;exact SqL.of (I.lst vs1 fr ew)
 ·rintro i y σ H' hy ⟨s2,m,k4,h2,rfl,fr,vs2⟩;have hi:i < ws.length:=(List.getElem?_eq_some_iff.mp hy).1;have hin:i < ns.length:=by omega
  have en:ns[i]? =some ns[i]:=List.getElem?_eq_getElem hin;have rn:Rep H' ns[i].th y:=(rw.at i y _ hy (by rw[List.getElem?_map,en];rfl)).keep (I.tups vs1 fr);have gn:=gd _ (Jp hin);rw[Jo hin] at h2;generalize ns[i]=nd at rn gn h2;have kd:=(zdt gn).1;obtain⟨p,vk,vw,rfl,ea,rk,_⟩:=zO rn;have f1':=f1.trans fr;have rx':=rx.keep (I.tups vs f1');refine⟨_,rfl,_,rfl,p,_,_,_,rfl,rfl,SqT.of ea,rfl,x,nd.k,_,_,rfl,rx',rk,by omega,by omega,λH2 s2'=>⟨_,rfl,?_⟩⟩;have vs3:=I.same vs2 s2';unfold cntL at h2;cases z:zf x nd.k with
  | true=>rw[if_pos z] at h2;exact ifT rfl ⟨_,m,_,h2,rfl,fr.trans (Frm.of s2'),vs3⟩
  | false=>
   rw[if_neg (by rw[z];exact Jh),Pg.wp_bind] at h2;refine ifF rfl ?_;have et2:SqT K H2 p _:=SqT.of (s2' _ _ ea);refine⟨_,rfl,_,rfl,_,rfl,p,_,_,_,rfl,rfl,et2,rfl,_,rfl,p,_,_,_,rfl,rfl,et2,rfl,a,D,s2,nd.l,nd.c,rfl,vs3,Pg.wp_mono (λc s4 h4 v H4 f4 vs4 ev=>?_) (OutE.on (f1'.trans (Frm.of s2'))) h2⟩;have ev':v=.int c:=ev;subst ev';have tk4:=I.tups vs3 f4;refine⟨_,_,rfl,rfl,?_⟩;refine⟨_,rfl,p,_,_,_,rfl,rfl,SqT.of (tk4 _ _ (s2' _ _ ea)),rfl,_,rfl,nd.k,x,(rk.keep (Same.tups s2')).keep tk4,(rx'.keep (Same.tups s2')).keep tk4,by omega,_,rfl,?_⟩;have f14:=fr.trans ((Frm.of s2').trans f4);by_cases ek:nd.k=x
   ·rw[if_pos ek,Int.add_zero] at h4;rw[ze1 ek];exact ifF rfl ⟨_,_,_,h4,rfl,f14,vs4⟩
   ·rw[if_neg ek] at h4;rw[ze2 ek];exact ifT rfl ⟨_,rfl,_,_,rfl,rfl,_,_,_,h4,rfl,f14,vs4⟩
 ·rintro σ H' ⟨s2,m,k4,h2,rfl,fr,vs2⟩;rw[List.drop_of_length_le (by omega)] at h2;exact⟨_,rfl,h2 _ H' (f1.trans fr) vs2 rfl⟩
theorem zji (I:VI C VR)(D:Dfn K mg "counted" zeA ["vault","root","low","high"]) (zd0:Fn P w K mg base "is_empty" 21 ["low","high"] zeE) (zqQ:FnX P w K mg base "size" 6 ["vault","root"] (zkA VR CN CB CC)) (zdG:FnX P w K mg base "count_ahead" 23 ["vault","root","key"] (znG VR CN CB CC)):FnX P w K mg base "counted" 24 ["vault","root","low","high"] (zbT VR CN CB CC):=by
 refine D.okX (k:=23) zhu (λvs H Q E h=>?_) (λf cdv A outer s H vs Q E hr h=>?_)
 ·obtain⟨a,D,s,n,lo,hi,vl,vh,rfl,_⟩:=h;rfl
 obtain⟨a,D,s,n,lo,hi,vl,vh,rfl,vs,rl,rh,dl,dh,h⟩:=h;refine⟨_,(zb (zL (zai (zF zd0 hr (by omega) (by rfl) (za (pv 2) (za (pv 3) zc))))
 (zd (zm zg))
 zu)
 (zb (zq (i:=4) zhu.nd rfl (Or.inl rfl) (zc3 (zB zcI (pv 3) zaC (zA _)) (zW zqQ hr (by omega) (by rfl) zK (za (pv 0) (za (pv 1) zc))) (zW zdG hr (by omega) (by rfl) zK (za (pv 0) (za (pv 1) (za (pv 3) zc))))))
 (zb (zL (zB zcI (pv 2) zaC (zA _))
 (zd (zm (pv 4)))
 zu)
 (zd (zm (zC zbf (pv 4) (zW zdG hr (by omega) (by rfl) zK (za (pv 0) (za (pv 1) (za (pv 2) zc)))))))))),?_⟩
 refine⟨_,rfl,_,rfl,lo,hi,vl,vh,rfl,rl,rh,dl,λH1 s1=>⟨_,rfl,?_⟩⟩;have rl1:=rl.keep (Same.tups s1);have rh1:=rh.keep (Same.tups s1);have vs1:=I.same vs s1;unfold Out zcq at h;cases ze:zcM lo hi with
 | true=>rw[if_pos ze] at h;exact ifT rfl (h _ H1 (Frm.of s1) vs1 rfl)
 | false=>
  rw[if_neg (by rw[ze];exact Jh),Pg.wp_bind] at h;refine ifF rfl ?_;dsimp only[zpD];refine ze0 (fun σ H2=>∃(m:Int) (s2:Vst),σ=[some (.ref a),some (.int n),some vl,some vh,some (.int m)]/\(zhS n lo m).wp s2 (OutQ VR a D IntR H Q) (OutE VR CN CB CC a D H E)/\Frm D H1 H2/\VR H2 a D s2) (λN kN=>?_) ?_
  ·refine⟨_,rfl,rfl,_,rfl,?_⟩;rw[zdq rh];by_cases eh:hi=.non
   ·rw[if_pos eh] at h;refine ifT (decide_eq_true eh) ⟨_,rfl,_,rfl,a,D,s,n,rfl,vs1,Pg.wp_mono (λm s2 h2 v H2 f2 vs2 ev=>?_) (OutE.on (Frm.of s1)) h⟩;have ev':v=.int m:=ev;subst ev';exact kN _ H2 ⟨m,s2,rfl,h2,f2,vs2⟩
   ·rw[if_neg eh] at h;refine ifF (Jd eh) ⟨_,rfl,_,rfl,_,rfl,a,D,s,n,hi,vh,rfl,vs1,rh1,dh,Pg.wp_mono (λm s2 h2 v H2 f2 vs2 ev=>?_) (OutE.on (Frm.of s1)) h⟩;have ev':v=.int m:=ev;subst ev';exact kN _ H2 ⟨m,s2,rfl,h2,f2,vs2⟩
  ·rintro σ H2 ⟨m,s2,rfl,h2,f2,vs2⟩;refine⟨_,rfl,rfl,_,rfl,?_⟩;rw[zdq rl];unfold zhS at h2;by_cases el:lo=.non
   ·rw[if_pos el] at h2;exact ifT (decide_eq_true el) ⟨_,rfl,h2 _ H2 ((Frm.of s1).trans f2) vs2 rfl⟩
   ·rw[if_neg el,Pg.wp_bind] at h2;have f02:Frm D H H2:=(Frm.of s1).trans f2;refine ifF (Jd el) ⟨_,rfl,_,rfl,_,rfl,_,rfl,a,D,s2,n,lo,vl,rfl,vs2,rl.keep (I.tups vs f02),dl,Pg.wp_mono (λk s3 h3 v H3 f3 vs3 ev=>?_) (OutE.on f02) h2⟩;have ev':v=.int k:=ev;subst ev';exact⟨_,_,rfl,rfl,h3 _ H3 (f02.trans f3) vs3 rfl⟩
theorem zoC (I:VI C VR)(D:Dfn K mg "nth" snth ["vault","root","number"]) (zao:FnX P w K mg base "node_beneath" 4 ["vault","root","count"] (zeS VR CN CB CC)) (zaR:FnX P w K mg base "size_beneath" 5 ["vault","root","count"] (zeD VR CN CB CC)) (zaA:mg "KEY" =some (.int 0 t1)) (zaL:mg "WORTH" =some (.int 1 t2)) (zak:mg "LEFT" =some (.int 2 t3)) (zaa:mg "RIGHT" =some (.int 3 t4)) (zQ:mg "COUNT" =some (.int 4 t5)) (zac:mg "BENEATH_NONE" =some (.int 301 t7)):
  FnX P w K mg base "nth" 6 ["vault","root","number"] (zgk VR CN CB CC):=by
 refine D.okX (k:=5) zfy (λvs H Q E h=>?_) (λf cdv A outer s H vs Q E hr h=>?_)
 ·obtain⟨a,D,s,n,i,rfl,_⟩:=h;rfl
 obtain⟨a,D,s,n,i,rfl,vs,h⟩:=h;refine⟨_,(zb (zL (zB zcY (pv 2) zg (zA _))
 (zd (zm zaC))
 zu)
 (zb (zq (i:=3) zfy.nd rfl (Or.inl rfl) (zw (v:=.int 301) (by rfl) zac ⟨_,rfl⟩))
 (zb (zc9 PassesOwn.leaving (zB zcr (pv 1) zg (zA _))
 (zb (zq (i:=4) zfy.nd rfl (Or.inl rfl) (zW zao hr (by omega) (by rfl) zK (za (pv 0) (za (pv 1) (za (pv 3) zc)))))
 (zb (zq (i:=3) zfy.nd rfl (Or.inl rfl) (zt zy (pv 4) (zw (v:=.int 4) (by rfl) zQ ⟨_,rfl⟩) (λ_ _=>rfl)))
 (zb (zL (zB zkW (pv 2) (pv 3) (zA _))
 (zd (zm zaC))
 zu)
 (zb (zq (i:=5) zfy.nd rfl (Or.inl rfl) (zW zaR hr (by omega) (by rfl) zK (za (pv 0) (za (zt zy (pv 4) (zw (v:=.int 2) (by rfl) zak ⟨_,rfl⟩) (λ_ _=>rfl)) (za (pv 3) zc)))))
 (zb (zL (zB zcu (pv 2) (pv 5) (zA _))
 (zd (zm (zau (za (zt zy (pv 4) (zw (v:=.int 0) (by rfl) zaA ⟨_,rfl⟩) (λ_ _=>rfl)) (za (zt zy (pv 4) (zw (v:=.int 1) (by rfl) zaL ⟨_,rfl⟩) (λ_ _=>rfl)) zc)))))
 zu)
 (zd (zL (zB zcY (pv 2) (pv 5) (zA _))
 (zd (zq (i:=1) zfy.nd rfl (Or.inl rfl) (zt zy (pv 4) (zw (v:=.int 2) (by rfl) zak ⟨_,rfl⟩) (λ_ _=>rfl))))
 (zb (zq (i:=1) zfy.nd rfl (Or.inl rfl) (zt zy (pv 4) (zw (v:=.int 3) (by rfl) zaa ⟨_,rfl⟩) (λ_ _=>rfl)))
 (zd (zq (i:=2) zfy.nd rfl (Or.inl rfl) (zC zbf (zC zbf (pv 2) (pv 5)) zg))))))))))))
 (zd (zm zaC))))),?_⟩
 refine⟨_,rfl,_,_,rfl,rfl,_,rfl,?_⟩;unfold Out nthQ at h;by_cases hi:i < 0
 ·rw[if_pos hi] at h;exact ifT (decide_eq_true hi) (h _ H Frm.refl vs .non)
 rw[if_neg hi] at h;refine ifF (Jd hi) ?_;refine⟨λm σ H'=>∃(s1:Vst) (n c i:Int) (k4 k5:Option V),(nthL m n c i).wp s1 (OutQ VR a D ThR H Q) (OutE VR CN CB CC a D H E)/\1<=c/\c<=(m:Int)/\σ=[some (.ref a),some (.int n),some (.int i),some (.int c),k4,k5]/\Frm D H H'/\VR H' a D s1,⟨301,s,n,301,i,_,_,h,by decide,by decide,rfl,Frm.refl,vs⟩,?_⟩;clear h hi;rintro m σ H1 ⟨s1,n,c,i,k4,k5,h,c1,cm,rfl,f1,vs1⟩;obtain⟨m,rfl⟩:∃j,m=j+1:=⟨m - 1,by omega⟩;refine⟨_,rfl,rfl,_,rfl,?_⟩;rw[zaN];unfold nthL at h;by_cases hn:n=0
 ·rw[if_pos hn] at h;exact ifF (by rw[decide_eq_true hn];rfl) (h _ H1 f1 vs1 .non)
 rw[if_neg hn,Pg.wp_bind] at h;refine ifT (by rw[Jd hn];rfl) ⟨_,fun σ' H' h=>h,?_⟩;refine⟨_,rfl,_,rfl,_,rfl,a,D,s1,n,c,rfl,vs1,Pg.wp_mono (λnd s2 h2 v H2 f2 vs2 rn=>?_) (OutE.on f1) (ziQ h)⟩;obtain⟨⟨d1,d2⟩,h2⟩:=h2;obtain⟨p,vk,vw,rfl,ea,rk,rw'⟩:=zO rn.1;have et:SqT K H2 p _:=SqT.of ea;refine⟨_,rfl,p,_,_,_,rfl,rfl,et,rfl,?_⟩;refine⟨_,rfl,_,rfl,_,_,rfl,rfl,_,rfl,?_⟩;have f12:=f1.trans f2;by_cases hc:nd.c<=i
 ·rw[if_pos hc] at h2;exact ifT (decide_eq_true hc) (h2 _ H2 f12 vs2 .non)
 rw[if_neg hc,Pg.wp_bind] at h2;refine ifF (Jd (show¬i≥nd.c from hc)) ?_;refine⟨_,rfl,_,rfl,p,_,_,_,rfl,rfl,et,rfl,_,rfl,a,D,s2,nd.l,nd.c,rfl,vs2,Pg.wp_mono (λl s3 h3 v H3 f3 vs3 ev=>?_) (OutE.on f12) h2⟩;have ev':v=.int l:=ev;subst ev';have tk3:=I.tups vs2 f3;have et3:SqT K H3 p _:=SqT.of (tk3 _ _ ea);have f13:=f12.trans f3;refine⟨_,rfl,_,rfl,rfl,_,rfl,?_⟩;rw[zaN];by_cases h1:i=l
 ·rw[if_pos h1] at h3;refine ifT (decide_eq_true h1) ?_;refine⟨_,rfl,p,_,_,_,rfl,rfl,et3,rfl,_,rfl,p,_,_,_,rfl,rfl,et3,rfl,szl (show 2<=1000 by decide),λp2 hp2=>?_⟩;have s4:=zk (o:=.tup [vk,vw]) (Same.refl H3) hp2;exact h3 _ _ (f13.trans (Frm.of s4)) (I.same vs3 s4) ((RepL.cons (rk.keep tk3) (.cons (rw'.keep tk3) .nil)).new hp2)
 rw[if_neg h1] at h3;refine ifF (Jd h1) ?_;refine⟨_,rfl,_,rfl,_,_,rfl,rfl,_,rfl,?_⟩;by_cases h4:i < l
 ·rw[if_pos h4] at h3;refine ifT (decide_eq_true h4) ⟨_,rfl,p,_,_,_,rfl,rfl,et3,rfl,?_⟩;exact⟨m,JB m,s3,_,_,i,_,_,h3,d1,by omega,rfl,f13,vs3⟩
 ·rw[if_neg h4] at h3;refine ifF (Jd h4) ⟨_,rfl,p,_,_,_,rfl,rfl,et3,rfl,?_⟩;refine⟨_,rfl,_,rfl,_,_,rfl,rfl,_,_,rfl,rfl,?_⟩;exact⟨m,JB m,s3,_,_,i - l - 1,_,_,h3,d1,by omega,rfl,f13,vs3⟩
end
end Pv
namespace Pv
open PySem L2
noncomputable abbrev zfP:Stmt:=top 48
theorem zaw:zr ["vault","left","right","count","left_count","right_count","down","one","other","both","root","step"] ["vault","left","right","count"] (zh zfP):=L2.fsc (by decide+kernel)
noncomputable abbrev scut:Stmt:=top 47
theorem zmy:zr ["vault","root","key","way","own"] ["vault","root","key"] (zh scut):=L2.fsc (by decide+kernel)
structure Js where
 nd:Nd
 i:Int
 c:Int
noncomputable abbrev Js.th (j:Js):Th:=.tup [j.nd.th,.int j.i,.int j.c]
noncomputable def joinR:Nat->Int->Int->Int->Int->Pg (List Js ×Int)
 | 0,_,_,_,_=>.bad
 | f+1,l,lc,r,rc=>if l=0 then .ret ([],r) else if r=0 then .ret ([],l) else(benP l lc).bind λa=>(benP r rc).bind λb=>
  if zaF a.k b.k=true then(joinR f a.r a.c r rc).bind λy=>.ret (⟨a,3,a.c+b.c⟩::y.1,y.2) else(joinR f l lc b.l b.c).bind λy=>.ret (⟨b,2,a.c+b.c⟩::y.1,y.2)
noncomputable def upP:List Js->Int->Pg Int
 | [],n=>.ret n
 | j::r,n=>.lay (zaB j.nd j.i n j.c).th (upP r (zE (zaB j.nd j.i n j.c).th))
noncomputable def zi2 (l r c:Int):Pg Int:=(joinR 600 l c r c).bind λy=>upP y.1.reverse y.2
noncomputable def cutK (n:Int)(x:Th)(ns:List Nd):Pg Int:=match ns.getLast? with
 | none=>.ret n
 | some own=>if own.k=x then(zi2 own.l own.r own.c).bind λm=>zbE x (-1) ns.dropLast.reverse m else .ret n
noncomputable def cutP (n:Int)(x:Th):Pg Int:=(wayP x 301 n 301).bind (cutK n x)
def zhf (VR:VRT)(CN CB CC:Addr):Sp:=λvs H Q E=>∃(a:Addr) (D:QO) (s:Vst) (l r c:Int),vs=[.ref a,.int l,.int r,.int c]/\VR H a D s/\1<=c/\c<=300/\Out VR CN CB CC a D (zi2 l r c) s IntR H Q E
def zis (VR:VRT)(CN CB CC:Addr):Sp:=λvs H Q E=>∃(a:Addr) (D:QO) (s:Vst) (n:Int) (x:Th) (vx:V),vs=[.ref a,.int n,vx]/\VR H a D s/\Rep H x vx/\dep x<=8/\Out VR CN CB CC a D (cutP n x) s IntR H Q E
section
variable {P:Program}{w:World}{K:QA}{mg:QB}{base:Heap}{VR:VRT}{C CC CN CB:Addr}{x:Str}{t1 t2 t3 t4 t5 t6 t7:Tok}
theorem znM (I:VI C VR)(D:Dfn K mg "joined" zfP ["vault","left","right","count"]) (zao:FnX P w K mg base "node_beneath" 4 ["vault","root","count"] (zeS VR CN CB CC)) (zeG:Fn P w K mg base "above" 21 ["key","other"] zfL) (zeF:Mt P w K mg base (CX1 P w) C "lay" 14 ["self","thing"] (zcH VR CC)) (c_C:Cls K C) (zbb:Fn P w K mg base "with_tree" 1 ["node","side","root","count"] zee)
  (zaA:mg "KEY" =some (.int 0 t1)) (zak:mg "LEFT" =some (.int 2 t3)) (zaa:mg "RIGHT" =some (.int 3 t4)) (zQ:mg "COUNT" =some (.int 4 t5)) (za8:mg "reversed" =none):FnX P w K mg base "joined" 22 ["vault","left","right","count"] (zhf VR CN CB CC):=by
 refine D.okX (k:=21) zaw (λvs H Q E h=>?_) (λf cdv A outer s H vs Q E hr h=>?_)
 ·obtain⟨a,D,s,l,r,c,rfl,_⟩:=h;rfl
 obtain⟨a,D,s,l,r,c,rfl,vs,c1,c3,h⟩:=h;unfold Out zi2 at h;rw[Pg.wp_bind] at h;refine⟨_,(zb (zq (i:=4) zaw.nd rfl (Or.inl rfl) (pv 3))
 (zb (zq (i:=5) zaw.nd rfl (Or.inl rfl) (pv 3))
 (zb (zq (i:=6) zaw.nd rfl (Or.inl rfl) (zag zc))
 (zb (zc9 PassesOwn.leaving (PW.pt (zin (zB zcr (pv 1) zg (zA _)) (zfO (zB zcr (pv 2) zg (zA _)))))
 (zb (zq (i:=7) zaw.nd rfl (Or.inl rfl) (zW zao hr (by omega) (by rfl) zK (za (pv 0) (za (pv 1) (za (pv 4) zc)))))
 (zb (zq (i:=8) zaw.nd rfl (Or.inl rfl) (zW zao hr (by omega) (by rfl) zK (za (pv 0) (za (pv 2) (za (pv 5) zc)))))
 (zb (zq (i:=9) zaw.nd rfl (Or.inl rfl) (zC zar (zt zy (pv 7) (zw (v:=.int 4) (by rfl) zQ ⟨_,rfl⟩) (λ_ _=>rfl)) (zt zy (pv 8) (zw (v:=.int 4) (by rfl) zQ ⟨_,rfl⟩) (λ_ _=>rfl))))
 (zd (zL (zai (zF zeG hr (by omega) (by rfl) (za (zt zy (pv 7) (zw (v:=.int 0) (by rfl) zaA ⟨_,rfl⟩) (λ_ _=>rfl)) (za (zt zy (pv 8) (zw (v:=.int 0) (by rfl) zaA ⟨_,rfl⟩) (λ_ _=>rfl)) zc))))
 (zb (zaU (zet PySem.F.plainAttrs_list PySem.F.slot_list_append PySem.F.type_list_append zaX (pv 6) (za (zau (za (pv 7) (za (zw (v:=.int 3) (by rfl) zaa ⟨_,rfl⟩) (za (pv 9) zc)))) zc)))
 (zb (zq (i:=1) zaw.nd rfl (Or.inl rfl) (zt zy (pv 7) (zw (v:=.int 3) (by rfl) zaa ⟨_,rfl⟩) (λ_ _=>rfl)))
 (zd (zq (i:=4) zaw.nd rfl (Or.inl rfl) (zt zy (pv 7) (zw (v:=.int 4) (by rfl) zQ ⟨_,rfl⟩) (λ_ _=>rfl))))))
 (zb (zaU (zet PySem.F.plainAttrs_list PySem.F.slot_list_append PySem.F.type_list_append zaX (pv 6) (za (zau (za (pv 8) (za (zw (v:=.int 2) (by rfl) zak ⟨_,rfl⟩) (za (pv 9) zc)))) zc)))
 (zb (zq (i:=2) zaw.nd rfl (Or.inl rfl) (zt zy (pv 8) (zw (v:=.int 2) (by rfl) zak ⟨_,rfl⟩) (λ_ _=>rfl)))
 (zd (zq (i:=5) zaw.nd rfl (Or.inl rfl) (zt zy (pv 8) (zw (v:=.int 4) (by rfl) zQ ⟨_,rfl⟩) (λ_ _=>rfl))))))))))))
 (zb (zq (i:=10) zaw.nd rfl (Or.inl rfl) (zc3 (zB zcu (pv 1) zg (zA _)) (pv 2) (pv 1)))
 (zb (zaH PassesOwn.leaving rfl (zjI (by rfl) za8 (pv 6)) (zah (i:=11) zaw.nd rfl (Or.inl rfl))
 (zd (zq (i:=10) zaw.nd rfl (Or.inl rfl) (zb5 (pv 0) c_C zeF hr (by omega) zK (za (zF zbb hr (by omega) (by rfl) (za (zt zy (pv 11) zg (λ_ _=>rfl)) (za (zt zy (pv 11) zg (λ_ _=>rfl)) (za (pv 10) (za (zt zy (pv 11) zg (λ_ _=>rfl)) zc))))) zc)))))
 (zd (zm (pv 10))))))))),?_⟩
 refine⟨_,rfl,_,rfl,szl (show 0<=1000 by decide),λpd hpd=>?_⟩;have s0:=zk (o:=.lst []) (Same.refl H) hpd;have e0:upd H pd (.lst []) pd=some (.lst []):=zj;generalize upd H pd (.lst [])=H0 at s0 e0;dsimp only[zfp];refine ze0 (fun σ H'=>∃(s1:Vst) (l r lc rc:Int) (js:List Js) (ds:QQ) (k7 k8 k9:Option V),(l=0\/r=0)/\(upP js.reverse (if l=0 then r else l)).wp s1 (OutQ VR a D IntR H Q) (OutE VR CN CB CC a D H E)/\σ=[some (.ref a),some (.int l),some (.int r),some (.int c),some (.int lc),some (.int rc),some (.ref pd),k7,k8,k9,none,none]/\Frm D H H'/\VR H' a D s1/\H' pd=some (.lst ds)/\RepL H' (js.map Js.th) ds) (λN kN=>?_) ?_
 ·refine⟨λm σ H'=>∃(s1:Vst) (l r lc rc:Int) (js:List Js) (ds:QQ) (k7 k8 k9:Option V),(joinR m l lc r rc).wp s1 (λy s'=>(upP (js++y.1).reverse y.2).wp s' (OutQ VR a D IntR H Q) (OutE VR CN CB CC a D H E)) (OutE VR CN CB CC a D H E)/\1<=lc/\1<=rc/\lc+rc<=(m:Int)/\js.length+m<=600/\σ=[some (.ref a),some (.int l),some (.int r),some (.int c),some (.int lc),some (.int rc),some (.ref pd),k7,k8,k9,none,none]/\Frm D H H'/\VR H' a D s1/\H' pd=some (.lst ds)/\RepL H' (js.map Js.th) ds,⟨600,s,l,r,c,c,[],[],_,_,_,h,c1,c1,by omega,by decide,rfl,Frm.of s0,I.same vs s0,e0,.nil⟩,?_⟩;clear h;rintro m σ H1 ⟨s1,l,r,lc,rc,js,ds,k7,k8,k9,h,l1,r1,lm,jm,rfl,f1,vs1,e1,r1'⟩;obtain⟨m,rfl⟩:∃j,m=j+1:=⟨m - 1,by omega⟩;refine⟨_,rfl,rfl,_,rfl,?_⟩;rw[zaN];unfold joinR at h;by_cases hl:l=0
  ·rw[if_pos hl] at h;refine ifF (by rw[decide_eq_true hl];rfl) (ifF rfl (kN _ H1 ⟨s1,l,r,lc,rc,js,ds,k7,k8,k9,.inl hl,?_,rfl,f1,vs1,e1,r1'⟩));have h':(upP (js++ []).reverse r).wp s1 (OutQ VR a D IntR H Q) (OutE VR CN CB CC a D H E):=h;rw[List.append_nil] at h';rw[if_pos hl];exact h'
  rw[if_neg hl] at h;refine ifT (by rw[Jd hl];rfl) ⟨_,rfl,rfl,_,rfl,?_⟩;rw[zaN];by_cases hr0:r=0
  ·rw[if_pos hr0] at h;refine ifF (by rw[decide_eq_true hr0];rfl) (kN _ H1 ⟨s1,l,r,lc,rc,js,ds,k7,k8,k9,.inr hr0,?_,rfl,f1,vs1,e1,r1'⟩);have h':(upP (js++ []).reverse l).wp s1 (OutQ VR a D IntR H Q) (OutE VR CN CB CC a D H E):=h;rw[List.append_nil] at h';rw[if_neg hl];exact h'
  rw[if_neg hr0,Pg.wp_bind] at h;refine ifT (by rw[Jd hr0];rfl) ⟨_,fun σ' H' h=>h,?_⟩;refine⟨_,rfl,_,rfl,_,rfl,a,D,s1,l,lc,rfl,vs1,Pg.wp_mono (λone s2 h2 v H2 f2 vs2 rn=>?_) (OutE.on f1) (ziQ h)⟩;obtain⟨⟨o1,o2⟩,h2⟩:=h2;rw[Pg.wp_bind] at h2;have f12:=f1.trans f2;refine⟨_,rfl,_,rfl,_,rfl,a,D,s2,r,rc,rfl,vs2,Pg.wp_mono (λother s3 h3 v' H3 f3 vs3 rn'=>?_) (OutE.on f12) (ziQ h2)⟩;obtain⟨⟨q1,q2⟩,h3⟩:=h3;have f13:=f12.trans f3;obtain⟨rn,gn⟩:=rn;obtain⟨rn',gn'⟩:=rn';have rn3:=rn.keep (I.tups vs2 f3);have tk13:=(I.tups vs1 f2).trans (I.tups vs2 f3);have e3:=I.lst vs2 f3 (I.lst vs1 f2 e1);have r3:=r1'.keep tk13;clear rn r1' e1 h h2;obtain⟨p,vk,vw,rfl,ea,rk,_⟩:=zO rn3;obtain⟨p',vk',vw',rfl,ea',rk',_⟩:=zO rn';have et:SqT K H3 p _:=SqT.of ea;have et':SqT K H3 p' _:=SqT.of ea';refine⟨_,rfl,p,_,_,_,rfl,rfl,et,rfl,_,rfl,p',_,_,_,rfl,rfl,et',rfl,_,_,rfl,rfl,?_⟩;refine⟨_,rfl,p,_,_,_,rfl,rfl,et,rfl,_,rfl,p',_,_,_,rfl,rfl,et',rfl,one.k,other.k,_,_,rfl,rk,rk',(zgK gn).1,(zgK gn').1,λH4 s4=>⟨_,rfl,?_⟩⟩;have f14:=f13.trans (Frm.of s4);have vs4:=I.same vs3 s4;have e4:=s4 _ _ e3;have r4:=r3.keep (Same.tups s4);have ea4:=s4 _ _ ea;have ea4':=s4 _ _ ea';have rn4:=rn3.keep (Same.tups s4);have rn4':=rn'.keep (Same.tups s4);have hds:ds.length=js.length:=by rw[r4.len,List.length_map]
  have grow:∀(j:Js) (q:Addr) (d2:Addr),Rep H4 j.nd.th (.ref q)->H4 d2=none->∃H5,upd (upd H4 d2 (.tup [.ref q,.int j.i,.int j.c])) pd (.lst (ds++ [.ref d2]))=H5/\upd H4 d2 (.tup [.ref q,.int j.i,.int j.c]) pd=some (.lst ds)/\Frm D H H5/\VR H5 a D s3/\H5 pd=some (.lst (ds++ [.ref d2]))/\RepL H5 ((js++ [j]).map Js.th) (ds++ [.ref d2])/\Tups H4 H5:=λj q d2 rq hd2=>by
   have s5:=zk (o:=.tup [.ref q,.int j.i,.int j.c]) (Same.refl H4) hd2;have rp:Rep (upd H4 d2 (.tup [.ref q,.int j.i,.int j.c])) j.th (.ref d2):=(RepL.cons rq (.cons (.int _) (.cons (.int _) .nil))).new hd2;generalize upd H4 d2 (.tup [.ref q,.int j.i,.int j.c])=H5 at s5 rp;have e5:=s5 _ _ e4;have tk:Tups H5 (upd H5 pd (.lst (ds++ [.ref d2]))):=Tups.upd λxs z=>by rw[e5] at z;cases z
   refine⟨_,rfl,e5,zk6 (f14.trans (Frm.of s5)) hpd,I.nl (I.same vs4 s5) (NL.lst e5),zj,?_,(Same.tups s5).trans tk⟩;rw[List.map_append];exact((r4.keep (Same.tups s5)).keep tk).snoc (rp.keep tk)
  cases z:zaF one.k other.k with
  | true=>rw[if_pos z,Pg.wp_bind] at h3;refine ifT rfl ?_;refine⟨_,rfl,.inl ⟨rfl,_,SqL.of e4⟩,_,rfl,_,rfl,szl (show 3<=1000 by decide),λpt hpt=>?_⟩;obtain⟨H5,eH,e5,f5,vs5,e5',r5,tk5⟩:=grow ⟨one,3,one.c+other.c⟩ p pt rn4 hpt;refine⟨pd,ds,_,rfl,rfl,e5,Jg (show ds.length < 1000 by omega) (szl (Jb _)),?_⟩;rw[eH];have ea5:=tk5 _ _ ea4;refine⟨_,rfl,p,_,_,_,rfl,rfl,SqT.of ea5,rfl,?_⟩;refine⟨_,rfl,p,_,_,_,rfl,rfl,SqT.of ea5,rfl,?_⟩;refine⟨m,JB m,s3,_,_,_,_,js++ [⟨one,3,one.c+other.c⟩],_,_,_,_,Pg.wp_mono (λy s' z=>?_) (λ_ _ z=>z) h3,o1,r1,by omega,by rw[List.length_append];show js.length+1+m<=600;omega,rfl,f5,vs5,e5',r5⟩;have z':(upP (js++(⟨one,3,one.c+other.c⟩::y.1)).reverse y.2).wp s' (OutQ VR a D IntR H Q) (OutE VR CN CB CC a D H E):=z;rw[List.append_assoc];exact z'
  | false=>rw[if_neg (by rw[z];exact Jh),Pg.wp_bind] at h3;refine ifF rfl ?_;refine⟨_,rfl,.inl ⟨rfl,_,SqL.of e4⟩,_,rfl,_,rfl,szl (show 3<=1000 by decide),λpt hpt=>?_⟩;obtain⟨H5,eH,e5,f5,vs5,e5',r5,tk5⟩:=grow ⟨other,2,one.c+other.c⟩ p' pt rn4' hpt;refine⟨pd,ds,_,rfl,rfl,e5,Jg (show ds.length < 1000 by omega) (szl (Jb _)),?_⟩;rw[eH];have ea5:=tk5 _ _ ea4';refine⟨_,rfl,p',_,_,_,rfl,rfl,SqT.of ea5,rfl,?_⟩;refine⟨_,rfl,p',_,_,_,rfl,rfl,SqT.of ea5,rfl,?_⟩;refine⟨m,JB m,s3,_,_,_,_,js++ [⟨other,2,one.c+other.c⟩],_,_,_,_,Pg.wp_mono (λy s' z=>?_) (λ_ _ z=>z) h3,l1,q1,by omega,by rw[List.length_append];show js.length+1+m<=600;omega,rfl,f5,vs5,e5',r5⟩;have z':(upP (js++(⟨other,2,one.c+other.c⟩::y.1)).reverse y.2).wp s' (OutQ VR a D IntR H Q) (OutE VR CN CB CC a D H E):=z;rw[List.append_assoc];exact z'
 ·clear h;rintro σ H1 ⟨s1,l,r,lc,rc,js,ds,k7,k8,k9,hlr,h,rfl,f1,vs1,e1,r1⟩;have hds:ds.length=js.length:=by rw[r1.len,List.length_map]
  refine ze0 (fun σ H'=>σ=[some (.ref a),some (.int l),some (.int r),some (.int c),some (.int lc),some (.int rc),some (.ref pd),k7,k8,k9,some (.int (if l=0 then r else l)),none]/\H'=H1) (λN kN=>?_) ?_
  ·refine⟨_,rfl,rfl,_,rfl,?_⟩;rw[zaN];by_cases hl:l=0
   ·exact ifT (decide_eq_true hl) ⟨_,rfl,kN _ _ ⟨by rw[if_pos hl];rfl,rfl⟩⟩
   ·exact ifF (Jd hl) ⟨_,rfl,kN _ _ ⟨by rw[if_neg hl];rfl,rfl⟩⟩
  rintro σ H1' ⟨rfl,rfl⟩;generalize(if l=0 then r else l)=n at h;refine⟨_,rfl,pd,_,rfl,SqL.of e1,?_⟩;refine zh9 (λj σ H'=>∃(s2:Vst) (n:Int) (k11:Option V),(upP (js.reverse.drop j) n).wp s2 (OutQ VR a D IntR H Q) (OutE VR CN CB CC a D H E)/\σ=[some (.ref a),some (.int l),some (.int r),some (.int c),some (.int lc),some (.int rc),some (.ref pd),k7,k8,k9,some (.int n),k11]/\Frm D H1' H'/\VR H' a D s2) ⟨s1,n,_,h,rfl,Frm.refl,vs1⟩ ?_ ?_ ?_
  ·rintro j σ H' ⟨s2,n,k11,_,rfl,fr,_⟩;exact SqL.of (I.lst vs1 fr e1)
  ·rintro j y σ H' hj hy ⟨s2,n,k11,h,rfl,fr,vs2⟩;obtain⟨st,hm,ed,rl⟩:=zjX r1 hj hy;rw[ed] at h;obtain⟨h0,gN,h1,h2⟩:=h;have rl':=rl.keep (I.tups vs1 fr);obtain⟨pt,xs,e,ept,rx⟩:=rl'.list;subst e;cases rx with
   | cons rn rx2=>
   cases rx2 with
   | cons r2 rx3=>
   cases rx3 with
   | cons r3 rx4=>
   cases rx4 with
   | nil=>
   cases r2;cases r3;obtain⟨dx,fs,eo,_,n2⟩:=I.ins vs2;have et:SqT K H' pt _:=SqT.of ept;refine⟨_,rfl,a,dx,fs,rfl,eo,n2,_,rfl,pt,_,_,_,rfl,rfl,et,rfl,_,rfl,pt,_,_,_,rfl,rfl,et,rfl,_,rfl,_,rfl,pt,_,_,_,rfl,rfl,et,rfl,_,st.nd,_,_,_,rfl,rn,λp2 H3 s3 r3=>?_⟩;have f12:=f1.trans (fr.trans (Frm.of s3));exact⟨a,D,s2,_,_,rfl,I.same vs2 s3,h0,r3,gN,λH4 st4 f4 vs4=>⟨_,_,_,h1 st4,rfl,fr.trans ((Frm.of s3).trans f4),vs4⟩,λu x' v1 v2 H4 st4 f4=>h2 u st4 x' v1 v2 H4 (f12.trans f4)⟩
  ·rintro σ H' ⟨s2,n,k11,h,rfl,fr,vs2⟩;rw[List.drop_of_length_le (by rw[List.length_reverse];omega)] at h;exact⟨_,rfl,h _ H' (f1.trans fr) vs2 rfl⟩
theorem zoJ (I:VI C VR)(D:Dfn K mg "cut" scut ["vault","root","key"]) (zbV:FnX P w K mg base "way_to" 22 ["vault","root","key"] (zf2 VR CN CB CC)) (zcA:Fn P w K mg base "ends_at" 1 ["way","key"] (zeb K)) (ziu:FnX P w K mg base "hung" 22 ["vault","way","key","root","more"] (zfE VR CN CB CC)) (zod:FnX P w K mg base "joined" 22 ["vault","left","right","count"] (zhf VR CN CB CC))
  (zQ:mg "COUNT" =some (.int 4 t5)) (zak:mg "LEFT" =some (.int 2 t3)) (zaa:mg "RIGHT" =some (.int 3 t4)):FnX P w K mg base "cut" 23 ["vault","root","key"] (zis VR CN CB CC):=by
 refine D.okX (k:=22) zmy (λvs H Q E h=>?_) (λf cdv A outer s H vs Q E hr h=>?_)
 ·obtain⟨a,D,s,n,x,vx,rfl,_⟩:=h;rfl
 obtain⟨a,D,s,n,x,vx,rfl,vs,rx,dx,h⟩:=h;unfold Out cutP at h;rw[Pg.wp_bind] at h;refine⟨_,(zb (zq (i:=3) zmy.nd rfl (Or.inl rfl) (zW zbV hr (by omega) (by rfl) zK (za (pv 0) (za (pv 1) (za (pv 2) zc)))))
 (zb (zL (zdg (zai (zF zcA hr (by omega) (by rfl) (za (pv 3) (za (pv 2) zc)))))
 (zd (zm (pv 1)))
 zu)
 (zb (zq (i:=4) zmy.nd rfl (Or.inl rfl) (zt zN (pv 3) (zdc zbK zg) (λ_ _=>rfl)))
 (zd (zm (zW ziu hr (by omega) (by rfl) zK (za (pv 0) (za (zaM zbq (pv 3) zb3 (zaK (zdc zbK zg))) (za (pv 2) (za (zW zod hr (by omega) (by rfl) zK (za (pv 0) (za (zt zy (pv 4) (zw (v:=.int 2) (by rfl) zak ⟨_,rfl⟩) (λ_ _=>rfl)) (za (zt zy (pv 4) (zw (v:=.int 3) (by rfl) zaa ⟨_,rfl⟩) (λ_ _=>rfl)) (za (zt zy (pv 4) (zw (v:=.int 4) (by rfl) zQ ⟨_,rfl⟩) (λ_ _=>rfl)) zc))))) (za (zdc zbK zg) zc))))))))))),?_⟩
 refine⟨_,rfl,_,rfl,_,rfl,a,D,s,n,x,vx,rfl,vs,rx,dx,Pg.wp_mono (λns s1 h1 v H1 f1 vs1 rn=>?_) (λ_ _ z=>z) (zn2 (by decide) h)⟩;obtain⟨hok,h1⟩:=h1;clear h;obtain⟨pw,ws,rfl,ew,rwy,gd,hl3⟩:=rn;have rx1:=rx.keep (I.tups vs f1);refine⟨_,rfl,_,rfl,pw,ws,ns,x,vx,rfl,SqL.of ew,rwy,gd,rx1,_,rfl,?_⟩;unfold cutK at h1;rcases JD ns with e | ⟨pre,nd,e⟩
 ·subst e;exact ifT rfl ⟨_,rfl,h1 _ H1 f1 vs1 rfl⟩
 rw[List.concat_eq_append] at e;subst e;have eb:zdE (pre++ [nd]) x=eqT nd.k x:=by unfold zdE;rw[List.getLast?_concat]
 rw[List.getLast?_concat] at h1;have h3:(if nd.k=x then(zi2 nd.l nd.r nd.c).bind λm=>zbE x (-1) (pre++ [nd]).dropLast.reverse m else .ret n).wp s1 (OutQ VR a D IntR H Q) (OutE VR CN CB CC a D H E):=h1;rw[eb];by_cases ek:nd.k=x
 ·rw[if_pos ek,Pg.wp_bind,List.dropLast_concat] at h3;rw[ze1 ek];refine ifF rfl ?_;have okn:=hok nd (Jf _ List.mem_cons_self);rw[List.map_append] at rwy;obtain⟨us,v,rfl,rus,rnd⟩:=rwy.unsnoc;obtain⟨p,vk,vw',rfl,ea,rk,_⟩:=zO rnd;have et:SqT K H1 p _:=SqT.of ea;refine⟨_,rfl,_,rfl,pw,_,_,_,rfl,rfl,SqL.of ew,zbh,?_⟩;refine⟨_,rfl,_,rfl,_,rfl,_,rfl,pw,_,rfl,SqL.of ew,λpc hpc=>?_⟩;rw[zkC (n:=us.length) (by simp),List.take_left];have s12:=zk (o:=.lst us) (Same.refl H1) hpc;have ec:upd H1 pc (.lst us) pc=some (.lst us):=zj;generalize upd H1 pc (.lst us)=H2 at s12 ec;have vs2:=I.same vs1 s12;have et2:SqT K H2 p _:=SqT.of (s12 _ _ ea);have f2:=f1.trans (Frm.of s12);refine⟨_,rfl,_,rfl,_,rfl,p,_,_,_,rfl,rfl,et2,rfl,_,rfl,p,_,_,_,rfl,rfl,et2,rfl,_,rfl,p,_,_,_,rfl,rfl,et2,rfl,a,D,s1,nd.l,nd.r,nd.c,rfl,vs2,okn.1,okn.2,Pg.wp_mono (λm s3 h4 v H3 f3 vs3 ev=>?_) (OutE.on f2) h3⟩;have ev':v=.int m:=ev;subst ev';have f23:=f2.trans f3;have tk3:=(Same.tups s12).trans (I.tups vs2 f3);exact⟨_,rfl,a,pc,D,s3,us,pre,x,vx,m, -1,rfl,vs3,I.lst vs2 f3 ec,rus.keep tk3,λy hy=>gd y (Jk _ hy),rx1.keep tk3,Pg.wp_mono (OutQ.on f23) (OutE.on f23) h4⟩
 ·rw[if_neg ek] at h3;rw[ze2 ek];exact ifT rfl ⟨_,rfl,h3 _ H1 f1 vs1 rfl⟩
end
end Pv
set_option maxHeartbeats 400000
namespace Ps
open PySem PyProof.Rows
noncomputable def zo6:Bool->Keyed->Array Keyed->Nat->Nat->Nat->StateT SortSt Sem (Option Nat):=sortPriv% PySem.Builtin.gallop
section
variable {prog:Program}{w:World}{A:Around}{E:QC}{s:Shared}
abbrev _root_.QL:=Array Keyed
noncomputable abbrev _root_.Je:=@wpS_pure
theorem zI {arr:QL}{i:Nat}{p:Keyed}{st:SortSt}{Q:Keyed->SortSt->Prop}(e:arr[i]? =some p)(h:Q p st):wpS (model prog w) A E s (elem' arr i) Q st:=by rw[elem'_eq,e];exact Je h
noncomputable abbrev _root_.Jc:=@wpS_bind
theorem zfM {x y:Keyed}{a b:Int}{t u:Tok}{st:SortSt}{Q:Option Bool->SortSt->Prop}(hk:kindOf st=oneType')(ex:x.1=.int a t)(ey:y.1=.int b u)(h:Q (some (decide (a < b))) st):wpS (model prog w) A E s (lt' x y) Q st:=by rw[lt'_eq];refine Jc (wpS_get ?_);rw[hk,keyLt'_oneType,ex,ey];exact Jc (wpS_lift (wpAny_attempt (oneLt_int ⟨rfl,Je h⟩)))
noncomputable def bey (left:Bool)(k x:Int):Bool:=if left then decide (x < k) else !decide (k < x)
theorem znz {left:Bool}{k x y:Int}(h:x<=y)(b:bey left k y=true):bey left k x=true:=by cases left <;> simp[bey] at b ⊢ <;> omega
theorem zbA {arr:QL}(h0:IntKeys arr){i:Nat}(hi:i < arr.size):∃t q,arr[i]? =some (.int (K arr i) t,q):=by obtain⟨n,t,hn⟩:=h0 arr[i] (by simp);have e:arr[i]? =some arr[i]:=getElem?_pos _ i hi;have e2:arr[i]=(.int n t,arr[i].2):=Prod.ext hn rfl;exact⟨t,arr[i].2,by unfold K;rw[e,e2];rfl⟩
theorem zc2 {left:Bool}{key:Keyed}{k:Int}{t:Tok}{arr:QL}{i:Nat}{st:SortSt}{Q:Option Bool->SortSt->Prop}(hk:kindOf st=oneType')(ek:key.1=.int k t)(h0:IntKeys arr)(hi:i < arr.size)
  (h:Q (some (bey left k (K arr i))) st):wpS (model prog w) A E s (do let x<-elem' arr i;if left=true then lt' x key else do let r<-lt' key x;pure (r.map (!·))) Q st:=by
 obtain⟨u,q,e⟩:=zbA h0 hi;refine Jc (zI e ?_);cases left with
 | true=>rw[if_pos rfl];exact zfM hk rfl ek h
 | false=>rw[if_neg (by decide)];exact Jc (zfM hk ek rfl (Je h))
theorem zfZ {P:Nat->Bool}{n lo hi:Nat}{st:SortSt}{f:Nat->Option (Option Nat) ×Nat ×Nat->StateT SortSt Sem (ForInStep (Option (Option Nat) ×Nat ×Nat))}{R:Option (Option Nat) ×Nat ×Nat->SortSt->Prop}
  (dn:∀i j,i<=j->j < n->P j=true->P i=true) (h1:lo<=hi) (h2:hi<=n) (h3:∀i,i < lo->P i=true) (h4:∀i,hi<=i->i < n->P i=false)
  (s1:∀x l r T,l≥r->T (.done (none,l,r)) st->wpS (model prog w) A E s (f x (none,l,r)) T st)
  (s2:∀x l r T,l < r->r<=n->(P (l+(r - l) / 2)=true->T (.yield (none,l+(r - l) / 2+1,r)) st)->(P (l+(r - l) / 2)=false->T (.yield (none,l,l+(r - l) / 2)) st)->wpS (model prog w) A E s (f x (none,l,r)) T st)
  (hR:∀r,r<=n->(∀i,i < r->P i=true)->(∀i,r<=i->i < n->P i=false)->R (none,r,r) st):
  wpS (model prog w) A E s (forIn [:n] (none,lo,hi) f) R st:=by
 have up:∀i j,i<=j->j < n->P i=false->P j=false:=λi j a b c=>by
  cases z:P j with
  | false=>rfl
  | true=>rw[dn i j a b z] at c;exact c
 refine wpS_forRange (I:=λx c st'=>st'=st/\∃l r,c=(none,l,r)/\l<=r/\r<=n/\r - l<=n - x/\(∀i,i < l->P i=true)/\(∀i,r<=i->i < n->P i=false)) ?_ ?_ ⟨rfl,lo,hi,rfl,h1,h2,by omega,h3,h4⟩
 ·rintro x c st' _ hx ⟨rfl,l,r,rfl,g1,g2,g3,g4,g5⟩;by_cases z:l≥r
  ·have:l=r:=by omega
   subst this;exact s1 x l l _ z (hR l g2 g4 g5)
  ·refine s2 x l r _ (by omega) g2 (λy=>?_) λy=>?_
   ·exact⟨rfl,_,_,rfl,by omega,by omega,by omega,λi hi=>dn i _ (by omega) (by omega) y,g5⟩
   ·exact⟨rfl,_,_,rfl,by omega,by omega,by omega,g4,λi a b=>up _ i a b y⟩
 ·rintro c st' ⟨rfl,l,r,rfl,g1,g2,g3,g4,g5⟩;have:l=r:=by omega
  subst this;exact hR l g2 g4 g5
theorem zaE {left:Bool}{key:Keyed}{k:Int}{t:Tok}{arr:QL}{base n hint:Nat}{st:SortSt}{Q:Option Nat->SortSt->Prop}(hk:kindOf st=oneType')(ek:key.1=.int k t)(h0:IntKeys arr)
  (hn:base+n<=arr.size) (hh:hint < n) (hs:∀i j,i<=j->j < n->K arr (base+i)<=K arr (base+j))
  (h:∀r,r<=n->(∀i,i < r->bey left k (K arr (base+i))=true)->(∀i,r<=i->i < n->bey left k (K arr (base+i))=false)->Q (some r) st):
  wpS (model prog w) A E s (zo6 left key arr base n hint) Q st:=by
 have dn:∀i j,i<=j->j < n->bey left k (K arr (base+j))=true->bey left k (K arr (base+i))=true:=λi j a b c=>znz (hs i j a b) c;have up:∀i j,i<=j->j < n->bey left k (K arr (base+i))=false->bey left k (K arr (base+j))=false:=λi j a b c=>by
  cases z:bey left k (K arr (base+j)) with
  | false=>rfl
  | true=>rw[dn i j a b z] at c;exact c
 refine Jc (zc2 hk ek h0 (by omega +splitNatSub) ?_);dsimp only;cases b0:bey left k (K arr (base+hint)) with
 | true=>
  rw[if_pos rfl];refine Jc (wpS_mono (wpS_forRange (I:=λx c st'=>st'=st/\∃l o,c=(none,l,o)/\l < o/\x+1<=o/\hint+l < n/\bey left k (K arr (base+(hint+l)))=true)
   (Q:=λc st'=>st'=st/\∃l o,c=(none,l,o)/\l < o/\hint+l < n/\bey left k (K arr (base+(hint+l)))=true/\(hint+o < n->bey left k (K arr (base+(hint+o)))=false)) ?_ ?_ ⟨rfl,0,1,rfl,by omega +splitNatSub,by omega +splitNatSub,by omega +splitNatSub,b0⟩) ?_)
  ·rintro x c st' _ hx ⟨rfl,l,o,rfl,g1,g2,g3,g4⟩;dsimp only;by_cases z:o≥n - hint
   ·rw[if_pos z];exact Je ⟨rfl,l,o,rfl,g1,g3,g4,λq=>Ji q (by omega +splitNatSub)⟩
   ·rw[if_neg z];refine Jc (zc2 hk ek h0 (by omega +splitNatSub) ?_);dsimp only;cases y:bey left k (K arr (base+(hint+o))) with
    | true=>exact Je ⟨rfl,o,2 * o+1,rfl,by omega +splitNatSub,by omega +splitNatSub,by omega +splitNatSub,y⟩
    | false=>exact Je ⟨rfl,l,o,rfl,g1,g3,g4,λ_=>y⟩
  ·rintro c st' ⟨rfl,l,o,rfl,g1,g2,g3,g4⟩;exact⟨rfl,l,o,rfl,g1,g3,g4,λq=>Ji q (by omega +splitNatSub)⟩
  ·rintro c st' ⟨rfl,l,o,rfl,g1,g3,g4,g5⟩;dsimp only;refine Jc (zfZ (P:=λi=>bey left k (K arr (base+i))) dn (lo:=hint+l+1) (hi:=hint+min o (n - hint)) (by omega +splitNatSub) (by omega +splitNatSub) (λi hi=>?_) (λi a b=>?_) (λx l r T z q=>?_) (λx l r T z z' q1 q2=>?_) λr x y z=>Je (h r x y z))
   ·exact dn i _ (by omega +splitNatSub) g3 g4
   ·exact up (hint+o) i (by omega +splitNatSub) b (g5 (by omega +splitNatSub))
   ·dsimp only;rw[if_pos z];exact Je q
   ·dsimp only;rw[if_neg (by omega +splitNatSub)];refine Jc (zc2 hk ek h0 (by omega +splitNatSub) ?_);cases y:bey left k (K arr (base+(l+(r - l) / 2))) with
    | true=>exact Je (q1 y)
    | false=>exact Je (q2 y)
 | false=>
  rw[if_neg (by decide)];refine Jc (wpS_mono (wpS_forRange (I:=λx c st'=>st'=st/\∃l o,c=(none,l,o)/\l < o/\x+1<=o/\l<=hint/\bey left k (K arr (base+(hint - l)))=false)
   (Q:=λc st'=>st'=st/\∃l o,c=(none,l,o)/\l < o/\l<=hint/\bey left k (K arr (base+(hint - l)))=false/\(o<=hint->bey left k (K arr (base+(hint - o)))=true)) ?_ ?_ ⟨rfl,0,1,rfl,by omega +splitNatSub,by omega +splitNatSub,by omega +splitNatSub,b0⟩) ?_)
  ·rintro x c st' _ hx ⟨rfl,l,o,rfl,g1,g2,g3,g4⟩;dsimp only;by_cases z:o≥hint+1
   ·rw[if_pos z];exact Je ⟨rfl,l,o,rfl,g1,g3,g4,λq=>Ji q (by omega +splitNatSub)⟩
   ·rw[if_neg z];refine Jc (zc2 hk ek h0 (by omega +splitNatSub) ?_);dsimp only;cases y:bey left k (K arr (base+(hint - o))) with
    | true=>exact Je ⟨rfl,l,o,rfl,g1,g3,g4,λ_=>y⟩
    | false=>exact Je ⟨rfl,o,2 * o+1,rfl,by omega +splitNatSub,by omega +splitNatSub,by omega +splitNatSub,y⟩
  ·rintro c st' ⟨rfl,l,o,rfl,g1,g2,g3,g4⟩;exact⟨rfl,l,o,rfl,g1,g3,g4,λq=>Ji q (by omega +splitNatSub)⟩
  ·rintro c st' ⟨rfl,l,o,rfl,g1,g3,g4,g5⟩;dsimp only;refine Jc (zfZ (P:=λi=>bey left k (K arr (base+i))) dn (lo:=hint+1 - min o (hint+1)) (hi:=hint - l) (by omega +splitNatSub) (by omega +splitNatSub) (λi hi=>?_) (λi a b=>?_) (λx l r T z q=>?_) (λx l r T z z' q1 q2=>?_) λr x y z=>Je (h r x y z))
   ·exact dn i (hint - o) (by omega +splitNatSub) (by omega +splitNatSub) (g5 (by omega +splitNatSub))
   ·exact up (hint - l) i a b g4
   ·dsimp only;rw[if_pos z];exact Je q
   ·dsimp only;rw[if_neg (by omega +splitNatSub)];refine Jc (zc2 hk ek h0 (by omega +splitNatSub) ?_);cases y:bey left k (K arr (base+(l+(r - l) / 2))) with
    | true=>exact Je (q1 y)
    | false=>exact Je (q2 y)
end
end Ps
namespace Ps
open PySem PyProof.Rows
noncomputable def nm (p:Keyed):Int:=numOf p.1
theorem K_at {xs:QL}{i:Nat}(hi:i < xs.size):K xs i=nm xs[i]:=by unfold K;rw[getElem?_pos xs i hi];rfl
theorem zgN {xs:QL}{i:Nat}(hi:i < xs.toList.length):nm xs.toList[i]=K xs i:=by rw[K_at (by simpa using hi)];simp
def Sr (xs:QL):Prop:=∀i j,i<=j->j < xs.size->K xs i<=K xs j
structure Inv (a b out:QL)(ia ib:Nat):Prop where
 la:ia<=a.size
 lb:ib<=b.size
 perm:out.toList.Perm (a.toList.take ia++b.toList.take ib)
 srt:out.toList.Pairwise (λp q=>nm p<=nm q)
 ha:∀p∈out.toList,∀i,ia<=i->i < a.size->nm p<=K a i
 hb:∀p∈out.toList,∀i,ib<=i->i < b.size->nm p<=K b i
theorem Inv.swap {a b out:QL}{ia ib:Nat}(v:Inv a b out ia ib):Inv b a out ib ia:=⟨v.lb,v.la,v.perm.trans List.perm_append_comm,v.srt,v.hb,v.ha⟩
theorem zam (a:QL)(i n:Nat):(a.extract i n).toList=(a.toList.take n).drop i:=by rw[Array.toList_extract];show List.take (n - i) (List.drop i a.toList)=_;rw[List.drop_take]
theorem zb1 {a:QL}{i n:Nat}{p:Keyed}(h:p∈(a.extract i n).toList):∃j,i<=j/\j < n/\j < a.size/\nm p=K a j:=by
 rw[zam] at h;obtain⟨m,hm,e⟩:=List.getElem_of_mem h;rw[List.getElem_drop,List.getElem_take] at e;simp only[List.length_drop,List.length_take,Array.length_toList] at hm;have l:i+m < a.size:=by omega
 refine⟨i+m,by omega,by omega,l,?_⟩;rw[K_at l,<-e];rfl
theorem Inv.app {a b out:QL}{ia ib:Nat}(v:Inv a b out ia ib)(sa:Sr a)(n:Nat)(h1:ia<=n)(h2:n<=a.size)(h:∀i,ia<=i->i < n->∀j,ib<=j->j < b.size->K a i<=K b j):Inv a b (out++a.extract ia n) n ib:=by
 refine⟨h2,v.lb,?_,?_,?_,?_⟩
 ·rw[Array.toList_append,zam];have e:a.toList.take n=a.toList.take ia++(a.toList.take n).drop ia:=by have:=(List.take_append_drop ia (a.toList.take n)).symm;rwa[List.take_take,Nat.min_eq_left h1] at this
  rw[e];refine(v.perm.append_right _).trans ?_;rw[List.append_assoc,List.append_assoc];refine List.Perm.append_left _ ?_;have e2:List.drop ia (List.take ia a.toList++List.drop ia (List.take n a.toList))=List.drop ia (List.take n a.toList):=by rw[<-e]
  rw[e2];exact List.perm_append_comm
 ·rw[Array.toList_append,List.pairwise_append];refine⟨v.srt,?_,λp hp q hq=>?_⟩
  ·rw[List.pairwise_iff_getElem];intro i j hi hj hij;rw[zam] at *;simp only[List.length_drop,List.length_take,Array.length_toList] at hi hj;simp only[zam,List.getElem_drop,List.getElem_take];rw[zgN,zgN];exact sa _ _ (by omega) (by omega)
  ·obtain⟨j,j1,j2,j3,e⟩:=zb1 hq;rw[e];exact v.ha p hp j j1 j3
 ·intro p hp i h3 h4;rw[Array.toList_append] at hp;rcases Jj.mp hp with hp | hp
  ·exact v.ha p hp i (by omega) h4
  ·obtain⟨j,j1,j2,j3,e⟩:=zb1 hp;rw[e];exact sa _ _ (by omega) h4
 ·intro p hp i h3 h4;rw[Array.toList_append] at hp;rcases Jj.mp hp with hp | hp
  ·exact v.hb p hp i h3 h4
  ·obtain⟨j,j1,j2,j3,e⟩:=zb1 hp;rw[e];exact h j j1 j2 i h3 h4
theorem zjc {a out:QL}{i:Nat}{p:Keyed}(e:a[i]? =some p):out.push p=out++a.extract i (i+1):=by
 obtain⟨hi,e'⟩:=Array.getElem?_eq_some_iff.mp e;have:a.extract i (i+1)= #[p]:=by apply Array.ext';rw[Array.toList_extract];show List.take (i+1 - i) (List.drop i a.toList)=[p];rw[Jo (by simpa using hi),show i+1 - i=1 by omega];simp[e']
 rw[this];rfl
noncomputable abbrev _root_.Ju:=@Int.le_trans
theorem Inv.one {a b out:QL}{ia ib:Nat}{p:Keyed}(v:Inv a b out ia ib)(sa:Sr a)(sb:Sr b)(e:a[ia]? =some p)(h:ib < b.size->K a ia<=K b ib):Inv a b (out.push p) (ia+1) ib:=by
 obtain⟨hi,e'⟩:=Array.getElem?_eq_some_iff.mp e;rw[zjc e];refine v.app sa _ (by omega) (by omega) λi h1 h2 j h3 h4=>?_;have:i=ia:=by omega
 subst this;exact Ju (h (by omega)) (sb _ _ h3 h4)
def Mg (a b out:QL):Prop:=out.toList.Perm (a.toList++b.toList)/\out.toList.Pairwise (λp q=>nm p<=nm q)
theorem Inv.done {a b out:QL}{ia ib:Nat}(v:Inv a b out ia ib)(sa:Sr a)(sb:Sr b)(h:ia=a.size\/ib=b.size):Mg a b (out++a.extract ia a.size++b.extract ib b.size):=by
 have v1:=v.app sa a.size v.la (Jb _) λi h1 h2 j h3 h4=>by omega
 have v2:=(v1.swap.app sb b.size v.lb (Jb _) λi h1 h2 j h3 h4=>by omega).swap;refine⟨?_,v2.srt⟩;have:=v2.perm;rwa[List.take_of_length_le (by simp),List.take_of_length_le (by simp)] at this
theorem Inv.last {a b out:QL}{ia ib:Nat}(v:Inv a b out ia ib)(sa:Sr a)(sb:Sr b)(e:ia+1=a.size)(h:∀j,j < b.size->K b j<=K a (a.size - 1)):Mg a b (out++b.extract ib b.size++a.extract ia a.size):=by
 have v1:=(v.swap.app sb b.size v.lb (Jb _) λi h1 h2 j h3 h4=>by
  have:j=a.size - 1:=by omega
  subst this;exact h i h2).swap
 have v2:=v1.app sa a.size v.la (Jb _) λi h1 h2 j h3 h4=>by omega
 refine⟨?_,v2.srt⟩;have:=v2.perm;rwa[List.take_of_length_le (by simp),List.take_of_length_le (by simp)] at this
theorem Inv.start {a b:QL}{p:Keyed}(sa:Sr a)(sb:Sr b)(e:b[0]? =some p)(h:0 < a.size->K b 0<=K a 0):Inv a b #[p] 0 1:=by have v:Inv a b #[] 0 0:=⟨Nat.zero_le _,Nat.zero_le _,.nil,.nil,λp h=>by simp at h,λp h=>by simp at h⟩;have:=(v.swap.one sb sa e h).swap;exact this
end Ps
set_option maxHeartbeats 1000000
namespace Ps
open PySem PyProof.Rows
noncomputable def znW:Array Keyed->Array Keyed->StateT SortSt Sem (Array Keyed):=sortPriv% PySem.Builtin.mergeLo
structure Sm (st st':SortSt):Prop where
 kd:kindOf st'=kindOf st
 ar:arrOf st'=arrOf st
 pn:pendingOf st'=pendingOf st
 fl:failedOf st'=failedOf st
theorem Sm.rfl' (st:SortSt):Sm st st:=⟨rfl,rfl,rfl,rfl⟩
structure Mid (a b out:QL)(ia ib x:Nat):Prop where
 v:Inv a b out ia ib
 b1:ib < b.size
 a1:ia+1 < a.size
 pr:x<=ia+ib
section
variable {prog:Program}{w:World}{A:Around}{E:QC}{s:Shared}
theorem zhV {a b:QL}{st:SortSt}{Q:Array Keyed->SortSt->Prop}(hk:kindOf st=oneType')(a0:IntKeys a)(b0:IntKeys b)(sa:Sr a)(sb:Sr b)(ha:0 < a.size)(hb:0 < b.size)(h1:K b 0<=K a 0)(h2:∀j,j < b.size->K b j<=K a (a.size - 1))
  (h:∀out st',Mg a b out->Sm st st'->Q out st'):
  wpS (model prog w) A E s (znW a b) Q st:=by
 refine Jc (wpS_lift (wpAny_rule ⟨rfl,?_⟩));obtain⟨t,q,e⟩:=zbA b0 hb;refine Jc (zI e ?_);have v:=Inv.start sa sb e λ_=>h1;dsimp only;by_cases z1:1=b.size
 ·rw[if_pos (by rw[<-z1];rfl)];exact Je (h _ st (v.done sa sb (.inr z1)) (Sm.rfl' _))
 rw[if_neg (by simpa using z1)];by_cases z2:0+1=a.size
 ·rw[if_pos (by rw[<-z2];rfl)];exact Je (h _ st (v.last sa sb z2 h2) (Sm.rfl' _))
 rw[if_neg (by simpa using z2)];refine Jc (wpS_get ?_);refine Jc (wpS_mono (wpS_forRange (I:=λx c st'=>Sm st st'/\∃out ia ib mg,c=(none,out,ia,ib,mg)/\Mid a b out ia ib x) (Q:=λc st'=>Sm st st'/\∃r d,c=(some r,d)/\Mg a b r) ?_ ?_ ⟨Sm.rfl' _,_,_,_,_,rfl,v,by omega,by omega,by omega⟩) ?_)
 ·rintro x c st1 _ _ ⟨sm1,out,ia,ib,mg,rfl,m1⟩;dsimp only;refine Jc (wpS_mono (wpS_forRange (I:=λy c st'=>Sm st st'/\∃out ia ib ac bc,c=(none,out,ia,ib,ac,bc)/\Mid a b out ia ib (x+y)) (Q:=λc st'=>Sm st st'/\((∃r d,c=(some r,d)/\Mg a b r)\/∃out ia ib ac bc,c=(none,out,ia,ib,ac,bc)/\Mid a b out ia ib x)) ?_ ?_ ⟨sm1,_,_,_,_,_,rfl,m1⟩) ?_)
  ·rintro y c st2 _ _ ⟨sm2,out,ia,ib,ac,bc,rfl,m2⟩;have ⟨v,b1,a1,pr⟩:=m2;obtain⟨tb,qb,eb⟩:=zbA b0 b1;obtain⟨ta,qa,ea⟩:=zbA a0 (show ia < a.size by omega);dsimp only;refine Jc (zI eb (Jc (zI ea (Jc (zfM (by rw[sm2.kd];exact hk) rfl rfl ?_)))));dsimp only;by_cases z:K b ib < K a ia
   ·rw[if_pos (decide_eq_true z)];refine Jc (zI eb ?_);have v':=(v.swap.one sb sa eb λ_=>Jr z).swap;by_cases z3:ib+1=b.size
    ·rw[if_pos (by simpa using z3)];exact Je ⟨sm2,.inl ⟨_,_,rfl,v'.done sa sb (.inr z3)⟩⟩
    rw[if_neg (by simpa using z3)];split
    ·exact Je ⟨sm2,.inr ⟨_,_,_,_,_,rfl,v',by omega,by omega,by omega⟩⟩
    ·exact Je ⟨sm2,_,_,_,_,_,rfl,v',by omega,by omega,by omega⟩
   ·rw[if_neg (by simpa using z)];refine Jc (zI ea ?_);have v':=v.one sa sb ea λ_=>Int.not_lt.mp z;by_cases z3:ia+1+1=a.size
    ·rw[if_pos (by simpa using z3)];exact Je ⟨sm2,.inl ⟨_,_,rfl,v'.last sa sb z3 h2⟩⟩
    rw[if_neg (by simpa using z3)];split
    ·exact Je ⟨sm2,.inr ⟨_,_,_,_,_,rfl,v',by omega,by omega,by omega⟩⟩
    ·exact Je ⟨sm2,_,_,_,_,_,rfl,v',by omega,by omega,by omega⟩
  ·rintro c st2 ⟨sm2,out,ia,ib,ac,bc,rfl,m2⟩;exact⟨sm2,.inr ⟨_,_,_,_,_,rfl,m2.v,m2.b1,m2.a1,Jn (JG _ _) m2.pr⟩⟩
  ·rintro c st2 ⟨sm2,⟨r,d,rfl,m2⟩ | ⟨out,ia,ib,ac,bc,rfl,m2⟩⟩
   ·exact Je ⟨sm2,_,_,rfl,m2⟩
   dsimp only;refine Jc (wpS_lift (wpAny_rule ⟨rfl,?_⟩));refine Jc (wpS_mono (wpS_forRange (I:=λy c st'=>Sm st st'/\∃out ia ib mg ac bc,c=(none,out,ia,ib,mg,ac,bc)/\Mid a b out ia ib (x+y)) (Q:=λc st'=>Sm st st'/\((∃r d,c=(some r,d)/\Mg a b r)\/∃out ia ib mg ac bc,c=(none,out,ia,ib,mg,ac,bc)/\Mid a b out ia ib (x+1))) ?_ ?_ ⟨sm2,_,_,_,_,_,_,rfl,m2⟩) ?_)
   ·rintro y c st3 _ _ ⟨sm3,out,ia,ib,mg,ac,bc,rfl,m3⟩;have ⟨v,b1,a1,pr⟩:=m3;obtain⟨tb,qb,eb⟩:=zbA b0 b1;dsimp only;by_cases z0:mg > 1
    all_goals
     first | rw[if_pos z0] | rw[if_neg z0]
     refine Jc (wpS_modify ?_);have sm4:∀g,Sm st (SortSt.mk' (kindOf st3) (arrOf st3) (pendingOf st3) g (failedOf st3)):=λ_=>⟨sm3.kd,sm3.ar,sm3.pn,sm3.fl⟩;refine Jc (zI eb ?_);refine Jc (zaE (by show kindOf st3=_;rw[sm3.kd];exact hk) rfl a0 (by omega) (by omega) (λi j g1 g2=>sa _ _ (by omega) (by omega)) λk k1 k2 k3=>?_);dsimp only;have w2:∀i,ia<=i->i < ia+k->K a i<=K b ib:=λi g1 g2=>by have:=k2 (i - ia) (by omega);rw[show ia+(i - ia)=i by omega] at this;simpa [bey] using this
     have j3:ia+k < a.size->K b ib<=K a (ia+k):=λg=>by have:=k3 k (Jb _) (by omega);exact Jr (by simpa [bey] using this)
     by_cases z3:k > 0
     ·rw[if_pos z3];have v1:=v.app sa (ia+k) (by omega) (by omega) λi g1 g2 j g3 g4=>Ju (w2 i g1 g2) (sb _ _ g3 g4);by_cases z4:ia+k+1=a.size
      ·rw[if_pos (by simpa using z4)];exact Je ⟨sm4 _,.inl ⟨_,_,rfl,v1.last sa sb z4 h2⟩⟩
      rw[if_neg (by simpa using z4)];by_cases z5:ia+k=a.size
      ·rw[if_pos (by simpa using z5)];exact Je ⟨sm4 _,.inl ⟨_,_,rfl,v1.done sa sb (.inl z5)⟩⟩
      rw[if_neg (by simpa using z5)];refine Jc (zI eb ?_);have v2:=(v1.swap.one sb sa eb λz=>j3 z).swap;by_cases z5:ib+1=b.size
      ·rw[if_pos (by simpa using z5)];exact Je ⟨sm4 _,.inl ⟨_,_,rfl,v2.done sa sb (.inr z5)⟩⟩
      rw[if_neg (by simpa using z5)];obtain⟨ta,qa,ea⟩:=zbA a0 (show ia+k < a.size by omega);refine Jc (zI ea ?_);refine Jc (zaE (by show kindOf st3=_;rw[sm3.kd];exact hk) rfl b0 (by omega) (by omega) (λi j g1 g2=>sb _ _ (by omega) (by omega)) λk' k1' k2' k3'=>?_);dsimp only;have w3:∀i,ib+1<=i->i < ib+1+k'->K b i < K a (ia+k):=λi g1 g2=>by have:=k2' (i - (ib+1)) (by omega);rw[show ib+1+(i - (ib+1))=i by omega] at this;simpa [bey] using this
      have k3':ib+1+k' < b.size->K a (ia+k)<=K b (ib+1+k'):=λg=>by have:=k3' k' (Jb _) (by omega);simpa [bey] using this
      by_cases z6:k' > 0
      ·rw[if_pos z6];have v3:=(v2.swap.app sb (ib+1+k') (by omega) (by omega) λi g1 g2 j g3 g4=>Ju (Jr (w3 i g1 g2)) (sa _ _ g3 g4)).swap;by_cases z8:ib+1+k'=b.size
       ·rw[if_pos (by simpa using z8)];exact Je ⟨sm4 _,.inl ⟨_,_,rfl,v3.done sa sb (.inr z8)⟩⟩
       rw[if_neg (by simpa using z8)];refine Jc (zI ea ?_);have v4:=v3.one sa sb ea λz=>k3' z;by_cases z7:ia+k+1+1=a.size
       ·rw[if_pos (by simpa using z7)];exact Je ⟨sm4 _,.inl ⟨_,_,rfl,v4.last sa sb z7 h2⟩⟩
       rw[if_neg (by simpa using z7)];split
       ·exact Je ⟨sm4 _,.inr ⟨_,_,_,_,_,_,rfl,v4,by omega,by omega,by omega⟩⟩
       ·exact Je ⟨sm4 _,_,_,_,_,_,_,rfl,v4,by omega,by omega,by omega⟩
      ·rw[if_neg z6];have z9:k'=0:=by omega
       subst z9;have v3:=v2;refine Jc (zI ea ?_);have v4:=v3.one sa sb ea λz=>k3' z;by_cases z7:ia+k+1+1=a.size
       ·rw[if_pos (by simpa using z7)];exact Je ⟨sm4 _,.inl ⟨_,_,rfl,v4.last sa sb z7 h2⟩⟩
       rw[if_neg (by simpa using z7)];split
       ·exact Je ⟨sm4 _,.inr ⟨_,_,_,_,_,_,rfl,v4,by omega,by omega,by omega⟩⟩
       ·exact Je ⟨sm4 _,_,_,_,_,_,_,rfl,v4,by omega,by omega,by omega⟩
     ·rw[if_neg z3];have z4:k=0:=by omega
      subst z4;have v1:=v;refine Jc (zI eb ?_);have v2:=(v1.swap.one sb sa eb λz=>j3 z).swap;by_cases z5:ib+1=b.size
      ·rw[if_pos (by simpa using z5)];exact Je ⟨sm4 _,.inl ⟨_,_,rfl,v2.done sa sb (.inr z5)⟩⟩
      rw[if_neg (by simpa using z5)];obtain⟨ta,qa,ea⟩:=zbA a0 (show ia < a.size by omega);refine Jc (zI ea ?_);refine Jc (zaE (by show kindOf st3=_;rw[sm3.kd];exact hk) rfl b0 (by omega) (by omega) (λi j g1 g2=>sb _ _ (by omega) (by omega)) λk' k1' k2' k3'=>?_);dsimp only;have w3:∀i,ib+1<=i->i < ib+1+k'->K b i < K a (ia):=λi g1 g2=>by have:=k2' (i - (ib+1)) (by omega);rw[show ib+1+(i - (ib+1))=i by omega] at this;simpa [bey] using this
      have k3':ib+1+k' < b.size->K a (ia)<=K b (ib+1+k'):=λg=>by have:=k3' k' (Jb _) (by omega);simpa [bey] using this
      by_cases z6:k' > 0
      ·rw[if_pos z6];have v3:=(v2.swap.app sb (ib+1+k') (by omega) (by omega) λi g1 g2 j g3 g4=>Ju (Jr (w3 i g1 g2)) (sa _ _ g3 g4)).swap;by_cases z8:ib+1+k'=b.size
       ·rw[if_pos (by simpa using z8)];exact Je ⟨sm4 _,.inl ⟨_,_,rfl,v3.done sa sb (.inr z8)⟩⟩
       rw[if_neg (by simpa using z8)];refine Jc (zI ea ?_);have v4:=v3.one sa sb ea λz=>k3' z;by_cases z7:ia+1+1=a.size
       ·rw[if_pos (by simpa using z7)];exact Je ⟨sm4 _,.inl ⟨_,_,rfl,v4.last sa sb z7 h2⟩⟩
       rw[if_neg (by simpa using z7)];split
       ·exact Je ⟨sm4 _,.inr ⟨_,_,_,_,_,_,rfl,v4,by omega,by omega,by omega⟩⟩
       ·exact Je ⟨sm4 _,_,_,_,_,_,_,rfl,v4,by omega,by omega,by omega⟩
      ·rw[if_neg z6];have z9:k'=0:=by omega
       subst z9;have v3:=v2;refine Jc (zI ea ?_);have v4:=v3.one sa sb ea λz=>k3' z;by_cases z7:ia+1+1=a.size
       ·rw[if_pos (by simpa using z7)];exact Je ⟨sm4 _,.inl ⟨_,_,rfl,v4.last sa sb z7 h2⟩⟩
       rw[if_neg (by simpa using z7)];split
       ·exact Je ⟨sm4 _,.inr ⟨_,_,_,_,_,_,rfl,v4,by omega,by omega,by omega⟩⟩
       ·exact Je ⟨sm4 _,_,_,_,_,_,_,rfl,v4,by omega,by omega,by omega⟩
   ·rintro c st3 ⟨sm3,out,ia,ib,mg,ac,bc,rfl,m3⟩;refine⟨sm3,.inr ⟨_,_,_,_,_,_,rfl,m3.v,m3.b1,m3.a1,?_⟩⟩;have:=m3.pr;omega
   ·rintro c st3 ⟨sm3,⟨r,d,rfl,m3⟩ | ⟨out,ia,ib,mg,ac,bc,rfl,m3⟩⟩
    ·exact Je ⟨sm3,_,_,rfl,m3⟩
    dsimp only;refine Jc (wpS_modify (Je ?_));exact⟨⟨sm3.kd,sm3.ar,sm3.pn,sm3.fl⟩,_,_,_,_,rfl,m3⟩
 ·rintro c st1 ⟨sm1,out,ia,ib,mg,rfl,m1⟩;have:=m1.pr;have:=m1.a1;have:=m1.b1;omega
 ·rintro c st1 ⟨sm1,r,d,rfl,m1⟩;exact Je (h _ _ m1 sm1)
end
end Ps
namespace Ps
open PySem PyProof.Rows
structure InH (a b out:QL)(na nb:Nat):Prop where
 la:na<=a.size
 lb:nb<=b.size
 perm:out.toList.Perm (a.toList.drop na++b.toList.drop nb)
 srt:out.toList.Pairwise (λp q=>nm q<=nm p)
 ha:∀p∈out.toList,∀i,i < na->K a i<=nm p
 hb:∀p∈out.toList,∀i,i < nb->K b i<=nm p
theorem InH.swap {a b out:QL}{na nb:Nat}(v:InH a b out na nb):InH b a out nb na:=⟨v.lb,v.la,v.perm.trans List.perm_append_comm,v.srt,v.hb,v.ha⟩
theorem InH.app {a b out:QL}{na nb:Nat}(v:InH a b out na nb)(sa:Sr a)(m:Nat)(h1:m<=na)(h:∀i,m<=i->i < na->∀j,j < nb->K b j<=K a i):InH a b (out++(a.extract m na).reverse) m nb:=by
 have la:=v.la;refine⟨by omega,v.lb,?_,?_,?_,?_⟩
 ·rw[Array.toList_append,Array.toList_reverse];have e:a.toList.drop m=(a.extract m na).toList++a.toList.drop na:=by rw[zam];have e1:a.toList=a.toList.take na++a.toList.drop na:=(List.take_append_drop _ _).symm;have e2:=congrArg (List.drop m) e1;rw[List.drop_append_of_le_length (by simp;omega)] at e2;exact e2
  rw[e];refine(v.perm.append (List.reverse_perm _)).trans ?_;refine List.perm_append_comm.trans ?_;rw[List.append_assoc]
 ·rw[Array.toList_append,Array.toList_reverse,List.pairwise_append];refine⟨v.srt,?_,λp hp q hq=>?_⟩
  ·rw[List.pairwise_reverse,List.pairwise_iff_getElem];intro i j hi hj hij;rw[zam] at *;simp only[List.length_drop,List.length_take,Array.length_toList] at hi hj;simp only[zam,List.getElem_drop,List.getElem_take];rw[zgN,zgN];exact sa _ _ (by omega) (by omega)
  ·obtain⟨j,j1,j2,j3,e⟩:=zb1 (List.mem_reverse.mp hq);rw[e];exact v.ha p hp j j2
 ·intro p hp i h3;rw[Array.toList_append,Array.toList_reverse] at hp;rcases Jj.mp hp with hp | hp
  ·exact v.ha p hp i (by omega)
  ·obtain⟨j,j1,j2,j3,e⟩:=zb1 (List.mem_reverse.mp hp);rw[e];exact sa _ _ (by omega) (by omega)
 ·intro p hp i h3;rw[Array.toList_append,Array.toList_reverse] at hp;rcases Jj.mp hp with hp | hp
  ·exact v.hb p hp i h3
  ·obtain⟨j,j1,j2,j3,e⟩:=zb1 (List.mem_reverse.mp hp);rw[e];exact h j j1 j2 i h3
theorem InH.one {a b out:QL}{na nb:Nat}{p:Keyed}(v:InH a b out na nb)(sa:Sr a)(sb:Sr b)(e:a[na - 1]? =some p)(h0:0 < na)(h:0 < nb->K b (nb - 1)<=K a (na - 1)):InH a b (out.push p) (na - 1) nb:=by
 have lb:=v.lb;have e1:out.push p=out++(a.extract (na - 1) na).reverse:=by
  have:=zjc (out:= #[]) e;rw[show na - 1+1=na by omega] at this;have e2:a.extract (na - 1) na= #[p]:=by simpa using this.symm
  rw[e2];rfl
 rw[e1];refine v.app sa _ (by omega) λi h1 h2 j h3=>?_;have:i=na - 1:=by omega
 subst this;exact Ju (sb _ _ (by omega) (by omega)) (h (by omega))
theorem InH.all {a b out:QL}(v:InH a b out 0 0):Mg a b out.reverse:=by
 refine⟨?_,?_⟩
 ·rw[Array.toList_reverse];refine(List.reverse_perm _).trans ?_;have:=v.perm;rwa[List.drop_zero,List.drop_zero] at this
 ·rw[Array.toList_reverse,List.pairwise_reverse];exact v.srt
theorem zkt (o x y:QL):(o++x.reverse++y.reverse).reverse=y++x++o.reverse:=by simp[Array.reverse_append]
theorem InH.done {a b out:QL}{na nb:Nat}(v:InH a b out na nb)(sa:Sr a)(sb:Sr b)(h:na=0\/nb=0):Mg a b (a.extract 0 na++b.extract 0 nb++out.reverse):=by
 have v1:=(v.swap.app sb 0 (Nat.zero_le _) λi h1 h2 j h3=>by omega).swap;have v2:=v1.app sa 0 (Nat.zero_le _) λi h1 h2 j h3=>by omega
 have:=v2.all;rwa[zkt] at this
theorem InH.first {a b out:QL}{na nb:Nat}(v:InH a b out na nb)(sa:Sr a)(sb:Sr b)(e:nb=1)(h:∀i,i < a.size->K b 0<=K a i):Mg a b (b.extract 0 nb++a.extract 0 na++out.reverse):=by
 have la:=v.la;have v1:=v.app sa 0 (Nat.zero_le _) λi h1 h2 j h3=>by
  have:j=0:=by omega
  subst this;exact h i (by omega)
 have v2:=(v1.swap.app sb 0 (Nat.zero_le _) λi h1 h2 j h3=>by omega).swap;have:=v2.all;rwa[zkt] at this
theorem InH.start {a b:QL}{p:Keyed}(sa:Sr a)(sb:Sr b)(ha:0 < a.size)(e:a[a.size - 1]? =some p)(h:0 < b.size->K b (b.size - 1)<=K a (a.size - 1)):InH a b #[p] (a.size - 1) b.size:=by have v:InH a b #[] a.size b.size:=⟨Jb _,Jb _,by simp,.nil,λp h=>by simp at h,λp h=>by simp at h⟩;exact v.one sa sb e ha h
end Ps
namespace Ps
open PySem PyProof.Rows
noncomputable def znc:Array Keyed->Array Keyed->StateT SortSt Sem (Array Keyed):=sortPriv% PySem.Builtin.mergeHi
structure MiH (a b out:QL)(na nb x:Nat):Prop where
 v:InH a b out na nb
 a1:0 < na
 b1:1 < nb
 pr:x+na+nb<=a.size+b.size
section
variable {prog:Program}{w:World}{A:Around}{E:QC}{s:Shared}
theorem zhM {a b:QL}{st:SortSt}{Q:Array Keyed->SortSt->Prop}(hk:kindOf st=oneType')(a0:IntKeys a)(b0:IntKeys b)(sa:Sr a)(sb:Sr b)(ha:0 < a.size)(hb:0 < b.size)(h1:K b (b.size - 1)<=K a (a.size - 1))(h2:∀i,i < a.size->K b 0<=K a i)
  (h:∀out st',Mg a b out->Sm st st'->Q out st'):
  wpS (model prog w) A E s (znc a b) Q st:=by
 refine Jc (wpS_lift (wpAny_rule ⟨rfl,?_⟩));obtain⟨t,q,e⟩:=zbA a0 (show a.size - 1 < a.size by omega);refine Jc (zI e ?_);have v:=InH.start sa sb ha e λ_=>h1;dsimp only;by_cases z1:a.size - 1=0
 ·rw[if_pos (by simpa using z1)];exact Je (h _ st (v.done sa sb (.inl z1)) (Sm.rfl' _))
 rw[if_neg (by simpa using z1)];by_cases z2:b.size=1
 ·rw[if_pos (by simpa using z2)];exact Je (h _ st (v.first sa sb z2 h2) (Sm.rfl' _))
 rw[if_neg (by simpa using z2)];refine Jc (wpS_get ?_);refine Jc (wpS_mono (wpS_forRange (I:=λx c st'=>Sm st st'/\∃na nb out mg,c=(none,na,nb,out,mg)/\MiH a b out na nb x) (Q:=λc st'=>Sm st st'/\∃r d,c=(some r,d)/\Mg a b r) ?_ ?_ ⟨Sm.rfl' _,_,_,_,_,rfl,v,by omega,by omega,by omega⟩) ?_)
 ·rintro x c st1 _ _ ⟨sm1,na,nb,out,mg,rfl,m1⟩;dsimp only;refine Jc (wpS_mono (wpS_forRange (I:=λy c st'=>Sm st st'/\∃na nb out ac bc,c=(none,na,nb,out,ac,bc)/\MiH a b out na nb (x+y)) (Q:=λc st'=>Sm st st'/\((∃r d,c=(some r,d)/\Mg a b r)\/∃na nb out ac bc,c=(none,na,nb,out,ac,bc)/\MiH a b out na nb x)) ?_ ?_ ⟨sm1,_,_,_,_,_,rfl,m1⟩) ?_)
  ·rintro y c st2 _ _ ⟨sm2,na,nb,out,ac,bc,rfl,m2⟩;have ⟨v,a1,b1,pr⟩:=m2;have la:=v.la;have lb:=v.lb;obtain⟨tb,qb,eb⟩:=zbA b0 (show nb - 1 < b.size by omega);obtain⟨ta,qa,ea⟩:=zbA a0 (show na - 1 < a.size by omega);dsimp only;refine Jc (zI eb (Jc (zI ea (Jc (zfM (by rw[sm2.kd];exact hk) rfl rfl ?_)))));dsimp only;by_cases z:K b (nb - 1) < K a (na - 1)
   ·rw[if_pos (decide_eq_true z)];refine Jc (zI ea ?_);have v':=v.one sa sb ea a1 λ_=>Jr z;by_cases z3:na - 1=0
    ·rw[if_pos (by simpa using z3)];exact Je ⟨sm2,.inl ⟨_,_,rfl,v'.done sa sb (.inl z3)⟩⟩
    rw[if_neg (by simpa using z3)];split
    ·exact Je ⟨sm2,.inr ⟨_,_,_,_,_,rfl,v',by omega,by omega,by omega⟩⟩
    ·exact Je ⟨sm2,_,_,_,_,_,rfl,v',by omega,by omega,by omega⟩
   ·rw[if_neg (by simpa using z)];refine Jc (zI eb ?_);have v':=(v.swap.one sb sa eb (by omega) λ_=>Int.not_lt.mp z).swap;by_cases z3:nb - 1=1
    ·rw[if_pos (by simpa using z3)];exact Je ⟨sm2,.inl ⟨_,_,rfl,v'.first sa sb z3 h2⟩⟩
    rw[if_neg (by simpa using z3)];split
    ·exact Je ⟨sm2,.inr ⟨_,_,_,_,_,rfl,v',by omega,by omega,by omega⟩⟩
    ·exact Je ⟨sm2,_,_,_,_,_,rfl,v',by omega,by omega,by omega⟩
  ·rintro c st2 ⟨sm2,na,nb,out,ac,bc,rfl,m2⟩;have pr:=m2.pr;exact⟨sm2,.inr ⟨_,_,_,_,_,rfl,m2.v,m2.a1,m2.b1,by omega⟩⟩
  ·rintro c st2 ⟨sm2,⟨r,d,rfl,m2⟩ | ⟨na,nb,out,ac,bc,rfl,m2⟩⟩
   ·exact Je ⟨sm2,_,_,rfl,m2⟩
   dsimp only;refine Jc (wpS_lift (wpAny_rule ⟨rfl,?_⟩));refine Jc (wpS_mono (wpS_forRange (I:=λy c st'=>Sm st st'/\∃na nb out mg ac bc,c=(none,na,nb,out,mg,ac,bc)/\MiH a b out na nb (x+y)) (Q:=λc st'=>Sm st st'/\((∃r d,c=(some r,d)/\Mg a b r)\/∃na nb out mg ac bc,c=(none,na,nb,out,mg,ac,bc)/\MiH a b out na nb (x+1))) ?_ ?_ ⟨sm2,_,_,_,_,_,_,rfl,m2⟩) ?_)
   ·rintro y c st3 _ _ ⟨sm3,na,nb,out,mg,ac,bc,rfl,m3⟩;have ⟨v,a1,b1,pr⟩:=m3;have la:=v.la;have lb:=v.lb;obtain⟨tb,qb,eb⟩:=zbA b0 (show nb - 1 < b.size by omega);dsimp only;by_cases z0:mg > 1
    all_goals
     first | rw[if_pos z0] | rw[if_neg z0]
     refine Jc (wpS_modify ?_);have sm4:∀g,Sm st (SortSt.mk' (kindOf st3) (arrOf st3) (pendingOf st3) g (failedOf st3)):=λ_=>⟨sm3.kd,sm3.ar,sm3.pn,sm3.fl⟩;refine Jc (zI eb ?_);refine Jc (zaE (by show kindOf st3=_;rw[sm3.kd];exact hk) rfl a0 (by omega) (by omega) (λi j g1 g2=>sa _ _ (by omega) (by omega)) λk k1 k2 k3=>?_);dsimp only;have w2:∀i,k<=i->i < na->K b (nb - 1)<=K a i:=λi g1 g2=>by have:=k3 i g1 g2;rw[Nat.zero_add] at this;exact Jr (by simpa [bey] using this)
     have j3:0 < k->K a (k - 1)<=K b (nb - 1):=λg=>by have:=k2 (k - 1) (by omega);rw[Nat.zero_add] at this;simpa [bey] using this
     by_cases z3:na - k > 0
     ·rw[if_pos z3];have v1:=v.app sa k (by omega) λi g1 g2 j g3=>Ju (sb _ _ (by omega) (by omega)) (w2 i g1 g2);by_cases z4:k=0
      ·rw[if_pos (by simpa using z4)];exact Je ⟨sm4 _,.inl ⟨_,_,rfl,v1.done sa sb (.inl z4)⟩⟩
      rw[if_neg (by simpa using z4)];refine Jc (zI eb ?_);have v2:=(v1.swap.one sb sa eb (by omega) λz=>j3 z).swap;by_cases z5:nb - 1=1
      ·rw[if_pos (by simpa using z5)];exact Je ⟨sm4 _,.inl ⟨_,_,rfl,v2.first sa sb z5 h2⟩⟩
      rw[if_neg (by simpa using z5)];obtain⟨ta,qa,ea⟩:=zbA a0 (show k - 1 < a.size by omega);refine Jc (zI ea ?_);refine Jc (zaE (by show kindOf st3=_;rw[sm3.kd];exact hk) rfl b0 (by omega) (by omega) (λi j g1 g2=>sb _ _ (by omega) (by omega)) λk' k1' k2' k3'=>?_);dsimp only;have w3:∀i,k'<=i->i < nb - 1->K a (k - 1)<=K b i:=λi g1 g2=>by have:=k3' i g1 g2;rw[Nat.zero_add] at this;simpa [bey] using this
      have k3':0 < k'->K b (k' - 1)<=K a (k - 1):=λg=>by have:=k2' (k' - 1) (by omega);rw[Nat.zero_add] at this;exact Jr (by simpa [bey] using this)
      by_cases z6:nb - 1 - k' > 0
      ·rw[if_pos z6];have v3:=(v2.swap.app sb k' (by omega) λi g1 g2 j g3=>Ju (sa _ _ (by omega) (by omega)) (w3 i g1 g2)).swap;by_cases z8:k'=1
       ·rw[if_pos (by simpa using z8)];exact Je ⟨sm4 _,.inl ⟨_,_,rfl,v3.first sa sb z8 h2⟩⟩
       rw[if_neg (by simpa using z8)];by_cases z9:k'=0
       ·rw[if_pos (by simpa using z9)];exact Je ⟨sm4 _,.inl ⟨_,_,rfl,v3.done sa sb (.inr z9)⟩⟩
       rw[if_neg (by simpa using z9)];refine Jc (zI ea ?_);have v4:=v3.one sa sb ea (by omega) λz=>k3' z;by_cases z7:k - 1=0
       ·rw[if_pos (by simpa using z7)];exact Je ⟨sm4 _,.inl ⟨_,_,rfl,v4.done sa sb (.inl z7)⟩⟩
       rw[if_neg (by simpa using z7)];split
       ·exact Je ⟨sm4 _,.inr ⟨_,_,_,_,_,_,rfl,v4,by omega,by omega,by omega⟩⟩
       ·exact Je ⟨sm4 _,_,_,_,_,_,_,rfl,v4,by omega,by omega,by omega⟩
      ·rw[if_neg z6];have z9:k'=nb - 1:=by omega
       subst z9;have v3:=v2;refine Jc (zI ea ?_);have v4:=v3.one sa sb ea (by omega) λz=>k3' z;by_cases z7:k - 1=0
       ·rw[if_pos (by simpa using z7)];exact Je ⟨sm4 _,.inl ⟨_,_,rfl,v4.done sa sb (.inl z7)⟩⟩
       rw[if_neg (by simpa using z7)];split
       ·exact Je ⟨sm4 _,.inr ⟨_,_,_,_,_,_,rfl,v4,by omega,by omega,by omega⟩⟩
       ·exact Je ⟨sm4 _,_,_,_,_,_,_,rfl,v4,by omega,by omega,by omega⟩
     ·rw[if_neg z3];have z4:k=na:=by omega
      subst z4;have v1:=v;refine Jc (zI eb ?_);have v2:=(v1.swap.one sb sa eb (by omega) λz=>j3 z).swap;by_cases z5:nb - 1=1
      ·rw[if_pos (by simpa using z5)];exact Je ⟨sm4 _,.inl ⟨_,_,rfl,v2.first sa sb z5 h2⟩⟩
      rw[if_neg (by simpa using z5)];obtain⟨ta,qa,ea⟩:=zbA a0 (show k - 1 < a.size by omega);refine Jc (zI ea ?_);refine Jc (zaE (by show kindOf st3=_;rw[sm3.kd];exact hk) rfl b0 (by omega) (by omega) (λi j g1 g2=>sb _ _ (by omega) (by omega)) λk' k1' k2' k3'=>?_);dsimp only;have w3:∀i,k'<=i->i < nb - 1->K a (k - 1)<=K b i:=λi g1 g2=>by have:=k3' i g1 g2;rw[Nat.zero_add] at this;simpa [bey] using this
      have k3':0 < k'->K b (k' - 1)<=K a (k - 1):=λg=>by have:=k2' (k' - 1) (by omega);rw[Nat.zero_add] at this;exact Jr (by simpa [bey] using this)
      by_cases z6:nb - 1 - k' > 0
      ·rw[if_pos z6];have v3:=(v2.swap.app sb k' (by omega) λi g1 g2 j g3=>Ju (sa _ _ (by omega) (by omega)) (w3 i g1 g2)).swap;by_cases z8:k'=1
       ·rw[if_pos (by simpa using z8)];exact Je ⟨sm4 _,.inl ⟨_,_,rfl,v3.first sa sb z8 h2⟩⟩
       rw[if_neg (by simpa using z8)];by_cases z9:k'=0
       ·rw[if_pos (by simpa using z9)];exact Je ⟨sm4 _,.inl ⟨_,_,rfl,v3.done sa sb (.inr z9)⟩⟩
       rw[if_neg (by simpa using z9)];refine Jc (zI ea ?_);have v4:=v3.one sa sb ea (by omega) λz=>k3' z;by_cases z7:k - 1=0
       ·rw[if_pos (by simpa using z7)];exact Je ⟨sm4 _,.inl ⟨_,_,rfl,v4.done sa sb (.inl z7)⟩⟩
       rw[if_neg (by simpa using z7)];split
       ·exact Je ⟨sm4 _,.inr ⟨_,_,_,_,_,_,rfl,v4,by omega,by omega,by omega⟩⟩
       ·exact Je ⟨sm4 _,_,_,_,_,_,_,rfl,v4,by omega,by omega,by omega⟩
      ·rw[if_neg z6];have z9:k'=nb - 1:=by omega
       subst z9;have v3:=v2;refine Jc (zI ea ?_);have v4:=v3.one sa sb ea (by omega) λz=>k3' z;by_cases z7:k - 1=0
       ·rw[if_pos (by simpa using z7)];exact Je ⟨sm4 _,.inl ⟨_,_,rfl,v4.done sa sb (.inl z7)⟩⟩
       rw[if_neg (by simpa using z7)];split
       ·exact Je ⟨sm4 _,.inr ⟨_,_,_,_,_,_,rfl,v4,by omega,by omega,by omega⟩⟩
       ·exact Je ⟨sm4 _,_,_,_,_,_,_,rfl,v4,by omega,by omega,by omega⟩
   ·rintro c st3 ⟨sm3,na,nb,out,mg,ac,bc,rfl,m3⟩;refine⟨sm3,.inr ⟨_,_,_,_,_,_,rfl,m3.v,m3.a1,m3.b1,?_⟩⟩;have:=m3.pr;omega
   ·rintro c st3 ⟨sm3,⟨r,d,rfl,m3⟩ | ⟨na,nb,out,mg,ac,bc,rfl,m3⟩⟩
    ·exact Je ⟨sm3,_,_,rfl,m3⟩
    dsimp only;refine Jc (wpS_modify (Je ?_));exact⟨⟨sm3.kd,sm3.ar,sm3.pn,sm3.fl⟩,_,_,_,_,rfl,m3⟩
 ·rintro c st1 ⟨sm1,na,nb,out,mg,rfl,m1⟩;have:=m1.pr;have:=m1.a1;have:=m1.b1;omega
 ·rintro c st1 ⟨sm1,r,d,rfl,m1⟩;exact Je (h _ _ m1 sm1)
end
end Ps
namespace Ps
open PySem PyProof.Rows
def SrI (xs:QL)(lo n:Nat):Prop:=∀i j,lo<=i->i<=j->j < lo+n->K xs i<=K xs j
def NoI (xs:QL)(lo n:Nat):Prop:=∀i j,lo<=i->i<=j->j < lo+n->K xs j<=K xs i
structure Bs (a₀:QL)(st₀ st:SortSt)(lo:Nat):Prop where
 perm:(arrOf st).Perm a₀
 kd:kindOf st=oneType'
 fl:failedOf st=none
 pn:pendingOf st=pendingOf st₀
 pf:∀i,i < lo->K (arrOf st) i=K (arrOf st₀) i
theorem Bs.size {a₀:QL}{st₀ st:SortSt}{lo:Nat}(B:Bs a₀ st₀ st lo):(arrOf st).size=a₀.size:=B.perm.size_eq
theorem Bs.ints {a₀:QL}{st₀ st:SortSt}{lo:Nat}(B:Bs a₀ st₀ st lo)(h0:IntKeys a₀):IntKeys (arrOf st):=λp hp=>h0 p ((Array.perm_iff_toList_perm.mp B.perm).mem_iff.mp hp)
section
variable {prog:Program}{w:World}{A:Around}{E:QC}{s:Shared}{a₀:QL}{st₀:SortSt}{lo:Nat}
theorem zbj {st:SortSt}{i j:Nat}{Q:Option Bool->SortSt->Prop}(B:Bs a₀ st₀ st lo)(h0:IntKeys a₀)(hi:i < a₀.size)(hj:j < a₀.size)(h:Q (some (decide (K (arrOf st) i < K (arrOf st) j))) st):wpS (model prog w) A E s (ltAt' i j) Q st:=by obtain⟨t,p,e1⟩:=zbA (B.ints h0) (show i < (arrOf st).size by rw[B.size];exact hi);obtain⟨u,q,e2⟩:=zbA (B.ints h0) (show j < (arrOf st).size by rw[B.size];exact hj);exact wpS_ltAt B.kd e1 e2 h
noncomputable abbrev revd (st:SortSt)(i j:Nat):SortSt:=setArr st (mirror (arrOf st) i j ((j - i) / 2))
theorem zbi {st:SortSt}{i j:Nat}{Q:Unit->SortSt->Prop}(h:Q () (revd st i j)):wpS (model prog w) A E s (reverseSlice' i j) Q st:=by rw[reverseSlice'_eq];exact wpS_modify h
theorem Bs.rev {st:SortSt}{i j:Nat}(B:Bs a₀ st₀ st lo)(h1:lo<=i)(h2:j<=a₀.size):Bs a₀ st₀ (revd st i j) lo:=
 ⟨(mirror_perm _ _ _ _).trans B.perm,B.kd,B.fl,B.pn,λm hm=>by show K (mirror (arrOf st) i j ((j - i) / 2)) m=_;rw[K_mirror (by rw[B.size];exact h2),if_neg (by omega)];exact B.pf m hm⟩
theorem zhL {st:SortSt}{m:Nat}(h:NoI (arrOf st) lo m)(hs:lo+m<=(arrOf st).size):SrI (arrOf (revd st lo (lo+m))) lo m:=λi j g1 g2 g3=>by show K (mirror (arrOf st) lo (lo+m) ((lo+m - lo) / 2)) i<=K (mirror (arrOf st) lo (lo+m) ((lo+m - lo) / 2)) j;rw[K_mirror hs,K_mirror hs,if_pos (by omega +splitNatSub),if_pos (by omega +splitNatSub)];exact h _ _ (by omega +splitNatSub) (by omega +splitNatSub) (by omega +splitNatSub)
theorem zc1 {st:SortSt}{a nrem:Nat}{f:Nat->Option (Option Nat) ×Nat->StateT SortSt Sem (ForInStep (Option (Option Nat) ×Nat))}{R:Option (Option Nat) ×Nat->SortSt->Prop}(ha:1<=a)(han:a<=nrem)(hs:SrI (arrOf st) lo a)
  (s1:∀x T,x < nrem->1<=x->(K (arrOf st) (lo+x) < K (arrOf st) (lo+x - 1)->T (.done (none,x)) st)->(¬K (arrOf st) (lo+x) < K (arrOf st) (lo+x - 1)->T (.yield (none,x+1)) st)->wpS (model prog w) A E s (f x (none,x)) T st)
  (hR:∀n,a<=n->n<=nrem->SrI (arrOf st) lo n->(n=nrem\/K (arrOf st) (lo+n) < K (arrOf st) (lo+n - 1))->R (none,n) st):wpS (model prog w) A E s (forIn [a:nrem] (none,a) f) R st:=by
 refine wpS_forRange (I:=λx c st'=>st'=st/\c=(none,x)/\SrI (arrOf st) lo x) ?_ ?_ ⟨rfl,rfl,hs⟩
 ·rintro x c st' hx hn ⟨rfl,rfl,g⟩;refine s1 x _ hn (by omega) (λz=>hR x hx (by omega) g (.inr z)) λz=>⟨rfl,rfl,λi j h1 h2 h3=>?_⟩;by_cases y:j < lo+x
  ·exact g i j h1 h2 y
  ·have:j=lo+x:=by omega
   subst this;by_cases y':i=lo+x
   ·subst y';exact JE _
   ·exact Ju (g i (lo+x - 1) h1 (by omega) (by omega)) (Int.not_lt.mp z)
 ·rintro c st' ⟨rfl,rfl,g⟩;rw[show max a nrem=nrem by omega] at g ⊢;exact hR nrem han (Jb _) g (.inl rfl)
theorem zhp {st:SortSt}{n nrem:Nat}{f:Nat->Option (Option Nat) ×Nat ×Nat->StateT SortSt Sem (ForInStep (Option (Option Nat) ×Nat ×Nat))}{R:Option (Option Nat) ×Nat ×Nat->SortSt->Prop}(B:Bs a₀ st₀ st lo)(hn:lo+nrem<=a₀.size)(h1:1<=n)(hnn:n<=nrem)(hs:NoI (arrOf st) lo n)
  (s1:∀x q st' T,Bs a₀ st₀ st' lo->x < nrem->q+1<=x->
   (K (arrOf st') (lo+x) < K (arrOf st') (lo+x - 1)->q > 0->T (.yield (none,x+1,0)) (revd st' (lo+x - (q+1)) (lo+x)))->
   (K (arrOf st') (lo+x) < K (arrOf st') (lo+x - 1)->¬q > 0->T (.yield (none,x+1,0)) st')->
   (K (arrOf st') (lo+x - 1) < K (arrOf st') (lo+x)->T (.done (none,x,q)) st')->
   (K (arrOf st') (lo+x)=K (arrOf st') (lo+x - 1)->T (.yield (none,x+1,q+1)) st')->wpS (model prog w) A E s (f x (none,x,q)) T st')
  (hR:∀m q st',Bs a₀ st₀ st' lo->n<=m->m<=nrem->NoI (arrOf st') lo m->q+1<=m->(∀i,lo+m - (q+1)<=i->i < lo+m->K (arrOf st') i=K (arrOf st') (lo+m - 1))->R (none,m,q) st'):
  wpS (model prog w) A E s (forIn [n:nrem] (none,n,0) f) R st:=by
 refine wpS_forRange (I:=λx c st'=>∃q,c=(none,x,q)/\Bs a₀ st₀ st' lo/\NoI (arrOf st') lo x/\q+1<=x/\∀i,lo+x - (q+1)<=i->i < lo+x->K (arrOf st') i=K (arrOf st') (lo+x - 1)) ?_ ?_ ⟨0,rfl,B,hs,by omega,λi a b=>by congr 1;omega⟩
 ·rintro x c st' hx hl ⟨q,rfl,B',g,hq,he⟩;have grow:∀xs:Array Keyed,(∀k,K xs k=K (arrOf st') k)->K (arrOf st') (lo+x)<=K (arrOf st') (lo+x - 1)->NoI xs lo (x+1):=λxs ek z i j h1 h2 h3=>by
   rw[ek,ek];by_cases y:j < lo+x
   ·exact g i j h1 h2 y
   ·have:j=lo+x:=by omega
    subst this;by_cases y':i=lo+x
    ·subst y';exact JE _
    ·exact Ju z (g i (lo+x - 1) h1 (by omega) (by omega))
  have sz:=B'.size;refine s1 x q st' _ B' hl hq (λz z'=>?_) (λz z'=>?_) (λz=>?_) λz=>?_
  ·exact⟨0,rfl,B'.rev (by omega) (by omega),grow _ (K_mirror_equal (by rw[sz];omega) he) (Jr z),by omega,λi a b=>by congr 1;omega⟩
  ·exact⟨0,rfl,B',grow _ (λ_=>rfl) (Jr z),by omega,λi a b=>by congr 1;omega⟩
  ·exact hR x q st' B' hx (by omega) g hq he
  ·refine⟨q+1,rfl,B',grow _ (λ_=>rfl) (Int.le_of_eq z),by omega,λi a b=>?_⟩;rw[show lo+(x+1) - 1=lo+x by omega];by_cases y:i=lo+x
   ·rw[y]
   ·rw[z];exact he i (by omega) (by omega)
 ·rintro c st' ⟨q,rfl,B',g,hq,he⟩;rw[show max n nrem=nrem by omega] at g hq he ⊢;exact hR nrem q st' B' hnn (Jb _) g hq he
theorem zj1 {st:SortSt}{nrem:Nat}{Q:Option Nat->SortSt->Prop}(h0:IntKeys a₀)(B:Bs a₀ st₀ st lo)(hn:lo+nrem<=a₀.size)(h1:1<=nrem)
  (h:∀m st',Bs a₀ st₀ st' lo->1<=m->m<=nrem->SrI (arrOf st') lo m->Q (some m) st'):wpS (model prog w) A E s (countRun' lo nrem) Q st:=by
 refine Jc (zc1 (lo:=lo) (Jb 1) h1 (λi j a b c=>by rw[show i=j by omega];exact JE _) (λx T g1 g2 q1 q2=>?_) λn n1 n2 sn ho=>?_)
 ·refine Jc (zbj B h0 (by omega) (by omega) ?_);by_cases z:K (arrOf st) (lo+x) < K (arrOf st) (lo+x - 1)
  ·rw[decide_eq_true z];exact Je (q1 z)
  ·rw[Jd z];exact Je (q2 z)
 dsimp only;by_cases z1:n=nrem
 ·rw[if_pos (by simpa using z1)];exact Je (h n st B n1 n2 sn)
 rw[if_neg (by simpa using z1)];have z2:=ho.resolve_left z1;by_cases z3:n > 1
 ·rw[if_pos z3];refine Jc (zbj B h0 (by omega) (by omega) ?_);dsimp only;by_cases z4:K (arrOf st) lo < K (arrOf st) (lo+n - 1)
  ·rw[if_pos (decide_eq_true z4)];exact Je (h n st B n1 n2 sn)
  rw[if_neg (by simpa using z4)];refine Jc (zbi ?_);have all:∀k,lo<=k->k < lo+n->K (arrOf st) k=K (arrOf st) (lo+n - 1):=λk y1 y2=>by have y3:=sn lo k (Jb _) y1 y2;have y4:=sn k (lo+n - 1) y1 (by omega) (by omega);omega
  have B3:=B.rev (Jb lo) (show lo+n<=a₀.size by omega);have N3:NoI (arrOf (revd st lo (lo+n))) lo (n+1):=λi j y1 y2 y3=>by
   show K (mirror _ _ _ _) j<=K (mirror _ _ _ _) i;rw[K_mirror_equal (by have:=B.size;omega) all,K_mirror_equal (by have:=B.size;omega) all];by_cases y4:j < lo+n
   ·rw[all i (by omega) (by omega),all j (by omega) y4];exact JE _
   ·have y5:j=lo+n:=by omega
    subst y5;by_cases y6:i=lo+n
    ·rw[y6];exact JE _
    ·rw[all i (by omega) (by omega)];exact Jr z2
  refine Jc (wpS_lift (wpAny_rule ⟨rfl,?_⟩));refine Jc (zhp (lo:=lo) B3 hn (n:=n+1) (by omega) (by omega) N3 (λx q st' T B' g1 g2 t1 t2 t3 t4=>?_) λm q st' B' g1 g2 g3 g4 g5=>?_)
  ·refine Jc (zbj (i:=lo+x) (j:=lo+x - 1) B' h0 (by omega) (by omega) ?_);dsimp only;by_cases z:K (arrOf st') (lo+x) < K (arrOf st') (lo+x - 1)
   ·rw[if_pos (decide_eq_true z)];by_cases z':q > 0
    ·rw[if_pos z'];exact Jc (zbi (Je (t1 z z')))
    ·rw[if_neg z'];exact Je (t2 z z')
   ·rw[if_neg (by simpa using z)];refine Jc (zbj (i:=lo+x - 1) (j:=lo+x) B' h0 (by omega) (by omega) ?_);dsimp only;by_cases z':K (arrOf st') (lo+x - 1) < K (arrOf st') (lo+x)
    ·rw[if_pos (decide_eq_true z')];exact Je (t3 z')
    ·rw[if_neg (by simpa using z')];exact Je (t4 (by omega))
  ·dsimp only;by_cases z':q > 0
   ·rw[if_pos z'];refine Jc (zbi ?_);have B4:=B'.rev (show lo<=lo+m - (q+1) by omega) (show lo+m<=a₀.size by omega);have N4:NoI (arrOf (revd st' (lo+m - (q+1)) (lo+m))) lo m:=λi j y1 y2 y3=>by show K (mirror _ _ _ _) j<=K (mirror _ _ _ _) i;rw[K_mirror_equal (by have:=B'.size;omega) g5,K_mirror_equal (by have:=B'.size;omega) g5];exact g3 i j y1 y2 y3
    refine Jc (zbi ?_);have B5:=B4.rev (Jb lo) (show lo+m<=a₀.size by omega);refine Jc (zc1 (lo:=lo) (show 1<=m by omega) (show m<=nrem by omega) (zhL N4 (by have:=B4.size;omega)) (λx T e1 e2 q1 q2=>?_) λn' n1' n2' sn' _=>Je (h n' _ B5 (by omega) n2' sn'))
    ·refine Jc (zbj (i:=lo+x) (j:=lo+x - 1) B5 h0 (by omega) (by omega) ?_);cases z:decide (K (arrOf (revd (revd st' (lo+m - (q+1)) (lo+m)) lo (lo+m))) (lo+x) < K (arrOf (revd (revd st' (lo+m - (q+1)) (lo+m)) lo (lo+m))) (lo+x - 1)) with
     | true=>exact Je (q1 (Jt z))
     | false=>exact Je (q2 (JC z))
   ·rw[if_neg z'];refine Jc (zbi ?_);have B5:=B'.rev (Jb lo) (show lo+m<=a₀.size by omega);refine Jc (zc1 (lo:=lo) (show 1<=m by omega) (show m<=nrem by omega) (zhL g3 (by have:=B'.size;omega)) (λx T e1 e2 q1 q2=>?_) λn' n1' n2' sn' _=>Je (h n' _ B5 (by omega) n2' sn'))
    ·refine Jc (zbj (i:=lo+x) (j:=lo+x - 1) B5 h0 (by omega) (by omega) ?_);cases z:decide (K (arrOf (revd st' lo (lo+m))) (lo+x) < K (arrOf (revd st' lo (lo+m))) (lo+x - 1)) with
     | true=>exact Je (q1 (Jt z))
     | false=>exact Je (q2 (JC z))
 ·rw[if_neg z3];have N3:NoI (arrOf st) lo (n+1):=λi j y1 y2 y3=>by
   by_cases y6:i=j
   ·rw[y6];exact JE _
   ·have y7:i=lo+n - 1:=by omega
    have y8:j=lo+n:=by omega
    rw[y7,y8];exact Jr z2
  refine Jc (wpS_lift (wpAny_rule ⟨rfl,?_⟩));refine Jc (zhp (lo:=lo) B hn (n:=n+1) (by omega) (by omega) N3 (λx q st' T B' g1 g2 t1 t2 t3 t4=>?_) λm q st' B' g1 g2 g3 g4 g5=>?_)
  ·refine Jc (zbj (i:=lo+x) (j:=lo+x - 1) B' h0 (by omega) (by omega) ?_);dsimp only;by_cases z:K (arrOf st') (lo+x) < K (arrOf st') (lo+x - 1)
   ·rw[if_pos (decide_eq_true z)];by_cases z':q > 0
    ·rw[if_pos z'];exact Jc (zbi (Je (t1 z z')))
    ·rw[if_neg z'];exact Je (t2 z z')
   ·rw[if_neg (by simpa using z)];refine Jc (zbj (i:=lo+x - 1) (j:=lo+x) B' h0 (by omega) (by omega) ?_);dsimp only;by_cases z':K (arrOf st') (lo+x - 1) < K (arrOf st') (lo+x)
    ·rw[if_pos (decide_eq_true z')];exact Je (t3 z')
    ·rw[if_neg (by simpa using z')];exact Je (t4 (by omega))
  ·dsimp only;by_cases z':q > 0
   ·rw[if_pos z'];refine Jc (zbi ?_);have B4:=B'.rev (show lo<=lo+m - (q+1) by omega) (show lo+m<=a₀.size by omega);have N4:NoI (arrOf (revd st' (lo+m - (q+1)) (lo+m))) lo m:=λi j y1 y2 y3=>by show K (mirror _ _ _ _) j<=K (mirror _ _ _ _) i;rw[K_mirror_equal (by have:=B'.size;omega) g5,K_mirror_equal (by have:=B'.size;omega) g5];exact g3 i j y1 y2 y3
    refine Jc (zbi ?_);have B5:=B4.rev (Jb lo) (show lo+m<=a₀.size by omega);refine Jc (zc1 (lo:=lo) (show 1<=m by omega) (show m<=nrem by omega) (zhL N4 (by have:=B4.size;omega)) (λx T e1 e2 q1 q2=>?_) λn' n1' n2' sn' _=>Je (h n' _ B5 (by omega) n2' sn'))
    ·refine Jc (zbj (i:=lo+x) (j:=lo+x - 1) B5 h0 (by omega) (by omega) ?_);cases z:decide (K (arrOf (revd (revd st' (lo+m - (q+1)) (lo+m)) lo (lo+m))) (lo+x) < K (arrOf (revd (revd st' (lo+m - (q+1)) (lo+m)) lo (lo+m))) (lo+x - 1)) with
     | true=>exact Je (q1 (Jt z))
     | false=>exact Je (q2 (JC z))
   ·rw[if_neg z'];refine Jc (zbi ?_);have B5:=B'.rev (Jb lo) (show lo+m<=a₀.size by omega);refine Jc (zc1 (lo:=lo) (show 1<=m by omega) (show m<=nrem by omega) (zhL g3 (by have:=B'.size;omega)) (λx T e1 e2 q1 q2=>?_) λn' n1' n2' sn' _=>Je (h n' _ B5 (by omega) n2' sn'))
    ·refine Jc (zbj (i:=lo+x) (j:=lo+x - 1) B5 h0 (by omega) (by omega) ?_);cases z:decide (K (arrOf (revd st' lo (lo+m))) (lo+x) < K (arrOf (revd st' lo (lo+m))) (lo+x - 1)) with
     | true=>exact Je (q1 (Jt z))
     | false=>exact Je (q2 (JC z))
end
end Ps
namespace Ps
open PySem PyProof.Rows
section
variable {prog:Program}{w:World}{A:Around}{E:QC}{s:Shared}{a₀:QL}{st₀:SortSt}{lo:Nat}
noncomputable abbrev movd (st:SortSt)(i j:Nat):SortSt:=setArr st (bubble (arrOf st) i (i - j))
theorem znA {st:SortSt}{i j:Nat}{Q:Unit->SortSt->Prop}(h:Q () (movd st i j)):wpS (model prog w) A E s (moveDown' i j) Q st:=by rw[moveDown'_eq];exact wpS_modify h
theorem Bs.mov {st:SortSt}{k l:Nat}(B:Bs a₀ st₀ st lo)(h1:l<=k)(h2:lo+k < a₀.size):Bs a₀ st₀ (movd st (lo+k) (lo+l)) lo:=
 ⟨(bubble_perm _ _ _).trans B.perm,B.kd,B.fl,B.pn,λm hm=>by show K (bubble (arrOf st) (lo+k) (lo+k - (lo+l))) m=_;rw[K_bubble (by rw[B.size];exact h2) (by omega),if_neg (by omega),if_neg (by omega)];exact B.pf m hm⟩
theorem zp0 {st:SortSt}{k l:Nat}(g:SrI (arrOf st) lo k)(hs:lo+k < (arrOf st).size)(h1:l<=k)(hlo:∀i,i < l->K (arrOf st) (lo+i)<=K (arrOf st) (lo+k))(hhi:∀i,l<=i->i < k->K (arrOf st) (lo+k) < K (arrOf st) (lo+i)):SrI (arrOf (movd st (lo+k) (lo+l))) lo (k+1):=λi j g1 g2 g3=>by
 show K (bubble (arrOf st) (lo+k) (lo+k - (lo+l))) i<=K (bubble (arrOf st) (lo+k) (lo+k - (lo+l))) j;have hlo':∀i,lo<=i->i < lo+l->K (arrOf st) i<=K (arrOf st) (lo+k):=λi a b=>by have:=hlo (i - lo) (by omega);rwa[show lo+(i - lo)=i by omega] at this
 have hhi':∀i,lo+l<=i->i < lo+k->K (arrOf st) (lo+k)<=K (arrOf st) i:=λi a b=>by have:=hhi (i - lo) (by omega) (by omega);rw[show lo+(i - lo)=i by omega] at this;exact Jr this
 rw[K_bubble hs (by omega),K_bubble hs (by omega),show lo+k - (lo+k - (lo+l))=lo+l by omega]
 repeat' split
 all_goals first
  | (exfalso;omega)
  | exact JE _
  | exact hlo' _ (by omega) (by omega)
  | exact hhi' _ (by omega) (by omega)
  | exact g _ _ (by omega) (by omega) (by omega)
theorem zmL {st:SortSt}{n ok:Nat}{Q:Bool->SortSt->Prop}(h0:IntKeys a₀)(B:Bs a₀ st₀ st lo)(hn:lo+n<=a₀.size)(hok:ok<=n)(hs:SrI (arrOf st) lo ok)
  (h:∀st',Bs a₀ st₀ st' lo->SrI (arrOf st') lo n->Q true st'):wpS (model prog w) A E s (binarySort' lo n ok) Q st:=by
 refine Jc (wpS_mono (wpS_forRange (I:=λk c st'=>c=(none,())/\Bs a₀ st₀ st' lo/\SrI (arrOf st') lo (min k n)) (Q:=λc st'=>c=(none,())/\Bs a₀ st₀ st' lo/\SrI (arrOf st') lo n) ?_ ?_ ⟨rfl,B,λi j a b c=>?_⟩) ?_)
 ·rintro k c st1 hk1 hk2 ⟨rfl,B1,g⟩;rw[show min k n=k by omega] at g;dsimp only;refine Jc (wpS_mono (wpS_forRange (I:=λx c st'=>st'=st1/\∃l r,c=(none,l,r)/\l<=r/\r<=k/\r - l<=k - x/\(∀i,i < l->K (arrOf st1) (lo+i)<=K (arrOf st1) (lo+k))/\(∀i,r<=i->i < k->K (arrOf st1) (lo+k) < K (arrOf st1) (lo+i)))
   (Q:=λc st'=>st'=st1/\∃l,c=(none,l,l)/\l<=k/\(∀i,i < l->K (arrOf st1) (lo+i)<=K (arrOf st1) (lo+k))/\(∀i,l<=i->i < k->K (arrOf st1) (lo+k) < K (arrOf st1) (lo+i))) ?_ ?_ ⟨rfl,0,k,rfl,by omega,by omega,by omega,λi h=>by omega,λi h1 h2=>by omega⟩) ?_)
  ·rintro x c st2 _ hx ⟨rfl,l,r,rfl,g1,g2,g3,g4,g5⟩;dsimp only;by_cases z:l≥r
   ·rw[if_pos z];have:l=r:=by omega
    subst this;exact Je ⟨rfl,l,rfl,g2,g4,g5⟩
   rw[if_neg z];refine Jc (zbj (i:=lo+k) (j:=lo+(l+r) / 2) B1 h0 (by omega) (by omega) ?_);dsimp only;by_cases z':K (arrOf st2) (lo+k) < K (arrOf st2) (lo+(l+r) / 2)
   ·rw[if_pos (decide_eq_true z')];exact Je ⟨rfl,_,_,rfl,by omega,by omega,by omega,g4,λi a b=>Int.lt_of_lt_of_le z' (g _ _ (by omega) (by omega) (by omega))⟩
   ·rw[if_neg (by simpa using z')];exact Je ⟨rfl,_,_,rfl,by omega,by omega,by omega,λi a=>Ju (g _ _ (by omega) (by omega) (by omega)) (Int.not_lt.mp z'),g5⟩
  ·rintro c st2 ⟨rfl,l,r,rfl,g1,g2,g3,g4,g5⟩;have:l=r:=by omega
   subst this;exact⟨rfl,l,rfl,g2,g4,g5⟩
  ·rintro c st2 ⟨rfl,l,rfl,g2,g4,g5⟩;dsimp only;refine Jc (znA (Je ⟨rfl,B1.mov g2 (by omega),?_⟩));rw[show min (k+1) n=k+1 by omega];exact zp0 g (by rw[B1.size];omega) g2 g4 g5
 ·rintro c st' ⟨hc,B',g⟩;rw[show min (max (max ok 1) n) n=n by omega] at g;exact⟨hc,B',g⟩
 ·by_cases z:ok=0
  ·rw[show i=j by omega];exact JE _
  ·exact hs i j a b (by omega)
 ·rintro c st' ⟨rfl,B',g⟩;exact Je (h st' B' g)
end
end Ps
namespace Ps
open PySem PyProof.Rows
noncomputable def lay (sa:Nat)(xs:QL)(l:List (Keyed ×Nat)):Array Keyed:=l.foldl (λa p=>a.setIfInBounds (sa+p.2) p.1) xs
theorem ziN (sa:Nat):∀(l:List Keyed) (k:Nat) (xs:QL),sa+k+l.length<=xs.size->(lay sa xs (l.zipIdx k)).toList=xs.toList.take (sa+k)++l++xs.toList.drop (sa+k+l.length)
 | [],k,xs,h=>by simp[lay]
 | p::l,k,xs,h=>by
  have h':sa+k+(l.length+1)<=xs.size:=h;have e:lay sa xs ((p::l).zipIdx k)=lay sa (xs.setIfInBounds (sa+k) p) (l.zipIdx (k+1)):=rfl;rw[e,ziN sa l (k+1) _ (by rw[Array.size_setIfInBounds];omega),Array.toList_setIfInBounds];have e1:(xs.toList.set (sa+k) p).take (sa+(k+1))=xs.toList.take (sa+k)++ [p]:=by
   rw[show sa+(k+1)=sa+k+1 by omega,List.take_succ,List.take_set_of_le (Jb _),List.getElem?_set_self (by simpa using(by omega:sa+k < xs.size))]
   rfl
  rw[e1,List.drop_set_of_lt (by omega),show sa+(k+1)+l.length=sa+k+(p::l).length by simp;omega];simp
theorem zpH {xs:QL}{i n m:Nat}(h:i+m < n)(hn:n<=xs.size):K (xs.extract i n) m=K xs (i+m):=by refine K_congr ?_;rw[Array.getElem?_extract,if_pos (by omega)]
theorem zez {xs:QL}(h:IntKeys xs)(i n:Nat):IntKeys (xs.extract i n):=λp hp=>by rw[zam] at hp;exact h p (List.mem_of_mem_take (List.mem_of_mem_drop hp))
end Ps
namespace Ps
open PySem PyProof.Rows
structure Dn (a₀:QL)(st:SortSt):Prop where
 perm:(arrOf st).Perm a₀
 fl:failedOf st=none
 pn:(pendingOf st).size<=1
 srt:SortedTo (arrOf st) a₀.size
section
variable {prog:Program}{w:World}{A:Around}{E:QC}{s:Shared}{a₀:QL}
theorem zmT {x st:SortSt}{Q:PUnit->SortSt->Prop}(h:Q ⟨⟩ x):wpS (model prog w) A E s (set x:StateT SortSt Sem PUnit) Q st:=by unfold wpS;rw[StateT.run_set];exact wpAny_pure ⟨rfl,h⟩
end
end Ps
namespace Ps
open PySem PyProof.Rows
theorem zmx {xs ys:QL}{a b:Nat}(h:xs.toList[a]? =ys.toList[b]?):K xs a=K ys b:=K_congr (by simpa using h)
theorem zjT {xs M:QL}{i m j:Nat}(h1:i<=m)(h2:m<=j)(h3:j<=xs.size)(mg:Mg (xs.extract i m) (xs.extract m j) M):
  (lay i xs M.toList.zipIdx).Perm xs/\(∀a,a < i\/j<=a->K (lay i xs M.toList.zipIdx) a=K xs a)/\(∀a b,i<=a->a<=b->b < j->K (lay i xs M.toList.zipIdx) a<=K (lay i xs M.toList.zipIdx) b)/\(∀b,i<=b->b < j->∃c,i<=c/\c < j/\K (lay i xs M.toList.zipIdx) b=K xs c):=by
 have ml:M.toList.length=j - i:=by have:=mg.1.length_eq;simp only[List.length_append,Array.length_toList,Array.size_extract] at this ⊢;omega
 have e:=ziN i M.toList 0 xs (by omega);rw[Nat.add_zero,ml,show i+(j - i)=j by omega] at e;have ex:xs.toList=xs.toList.take i++((xs.extract i m).toList++(xs.extract m j).toList)++xs.toList.drop j:=by
  have a1:xs.toList=xs.toList.take j++xs.toList.drop j:=(List.take_append_drop _ _).symm;have a2:xs.toList.take j=xs.toList.take m++(xs.toList.take j).drop m:=by have:=(List.take_append_drop m (xs.toList.take j)).symm;rwa[List.take_take,Nat.min_eq_left h2] at this
  have a3:xs.toList.take m=xs.toList.take i++(xs.toList.take m).drop i:=by have:=(List.take_append_drop i (xs.toList.take m)).symm;rwa[List.take_take,Nat.min_eq_left h1] at this
  rw[zam,zam,<-List.append_assoc,<-a3,<-a2,<-a1]
 have lt:(xs.toList.take i).length=i:=by rw[List.length_take,Array.length_toList];omega
 generalize hL:lay i xs M.toList.zipIdx=L at e;have mid:∀b,i<=b->b < j->∃hb:b - i < M.toList.length,K L b=nm M.toList[b - i]:=λb b1 b2=>by
  have hb:b - i < M.toList.length:=by omega
  have hbl:b < L.toList.length:=by rw[e,List.length_append,List.length_append,lt,ml];omega
  refine⟨hb,?_⟩;have q:L.toList[b]? =some M.toList[b - i]:=by rw[e,List.getElem?_append_left (by rw[List.length_append,lt,ml];omega),List.getElem?_append_right (by omega),lt,List.getElem?_eq_getElem hb]
  rw[List.getElem?_eq_getElem hbl] at q;rw[<-zgN hbl,Option.some.inj q]
 refine⟨?_,λa ha=>?_,λa b a1 ab b1=>?_,λb b1 b2=>?_⟩
 ·rw[Array.perm_iff_toList_perm,e]
  conv=>rhs;rw[ex]
  exact(List.Perm.append_left _ mg.1).append_right _
 ·refine zmx ?_;rw[e];rcases ha with ha | ha
  ·rw[List.append_assoc,List.getElem?_append_left (by omega),List.getElem?_take_of_lt ha]
  ·rw[List.getElem?_append_right (by rw[List.length_append,lt,ml];omega),List.length_append,lt,ml,List.getElem?_drop];congr 1;omega
 ·obtain⟨g1,e1⟩:=mid a a1 (by omega);obtain⟨g2,e2⟩:=mid b (by omega) b1;rw[e1,e2];by_cases z:a=b
  ·subst z;exact JE _
  ·exact List.pairwise_iff_getElem.mp mg.2 (a - i) (b - i) g1 g2 (by omega)
 ·obtain⟨g1,e1⟩:=mid b b1 b2;rw[e1];rcases Jj.mp (mg.1.mem_iff.mp (Jp g1)) with hq | hq
  ·obtain⟨c,c1,c2,c3,c4⟩:=zb1 hq;exact⟨c,c1,by omega,c4⟩
  ·obtain⟨c,c1,c2,c3,c4⟩:=zb1 hq;exact⟨c,by omega,c2,c4⟩
structure Gd (a₀:QL)(st st':SortSt)(i s1 n1 n2:Nat):Prop where
 perm:(arrOf st').Perm a₀
 kd:kindOf st'=oneType'
 fl:failedOf st'=none
 pn:∃pw,pendingOf st'=((pendingOf st).setIfInBounds i (s1,n1+n2,pw)).eraseIdxIfInBounds (i+1)
 srt:SrI (arrOf st') s1 (n1+n2)
 out:∀a,a < s1\/s1+n1+n2<=a->K (arrOf st') a=K (arrOf st) a
section
variable {prog:Program}{w:World}{A:Around}{E:QC}{s:Shared}{a₀:QL}
theorem zjU {st:SortSt}{i s1 n1 n2 pw p2:Nat}{Q:Bool->SortSt->Prop}(h0:IntKeys a₀)(pm:(arrOf st).Perm a₀)(kd:kindOf st=oneType')(fl:failedOf st=none)(d1:(pendingOf st)[i]? =some (s1,n1,pw))(d2:(pendingOf st)[i+1]? =some (s1+n1,n2,p2))(hn:s1+n1+n2<=a₀.size)(l1:0 < n1)(l2:0 < n2)
  (r1:SrI (arrOf st) s1 n1) (r2:SrI (arrOf st) (s1+n1) n2) (h:∀st',Gd a₀ st st' i s1 n1 n2->Q true st'):wpS (model prog w) A E s (mergeAt' i) Q st:=by
 have sz:(arrOf st).size=a₀.size:=pm.size_eq;have hi:IntKeys (arrOf st):=λp hp=>h0 p ((Array.perm_iff_toList_perm.mp pm).mem_iff.mp hp);obtain⟨k,ar,pe,g,f⟩:=st;change pe[i]? =_ at d1;change pe[i+1]? =_ at d2;change f=none at fl;change k=_ at kd;subst fl;subst kd;change ar.Perm a₀ at pm;change ar.size=_ at sz;change IntKeys ar at hi;change SrI ar s1 n1 at r1;change SrI ar (s1+n1) n2 at r2;refine Jc (wpS_get ?_);dsimp only;rw[d1,d2];dsimp only;refine Jc (zmT ?_);obtain⟨t,q,e1⟩:=zbA hi (show s1+n1 < ar.size by omega);refine Jc (zI e1 ?_);refine Jc (zaE rfl rfl hi (by omega) l1 (λi j g1 g2=>r1 _ _ (by omega) (by omega) (by omega)) λk k1 k2 k3=>?_);dsimp only;have w1:∀i,s1<=i->i < s1+k->K ar i<=K ar (s1+n1):=λi g0 g1=>by have:=k2 (i - s1) (by omega);rw[show s1+(i - s1)=i by omega] at this;simpa [bey] using this
 have w2:∀i,s1+k<=i->i < s1+n1->K ar (s1+n1) < K ar i:=λi g1 g2=>by have:=k3 (i - s1) (by omega) (by omega);rw[show s1+(i - s1)=i by omega] at this;simpa [bey] using this
 by_cases z1:n1 - k=0
 ·rw[if_pos (by simpa using z1)];refine Je (h _ ⟨pm,rfl,rfl,⟨pw,rfl⟩,λi j g1 g2 g3=>?_,λ_ _=>rfl⟩);show K ar i<=K ar j;by_cases y1:j < s1+n1
  ·exact r1 i j (by omega) g2 (by omega)
  ·by_cases y2:i < s1+n1
   ·exact Ju (w1 i (by omega) (by omega)) (r2 (s1+n1) j (by omega) (by omega) (by omega))
   ·exact r2 i j (by omega) g2 (by omega)
 rw[if_neg (by simpa using z1)];obtain⟨t',q',e2⟩:=zbA hi (show s1+k+(n1 - k) - 1 < ar.size by omega);refine Jc (zI e2 ?_);refine Jc (zaE rfl rfl hi (by omega) (by omega) (λi j g1 g2=>r2 _ _ (by omega) (by omega) (by omega)) λnb j1 j2 j3=>?_);dsimp only;have le:s1+k+(n1 - k) - 1=s1+n1 - 1:=by omega
 rw[le] at j2 j3;have w3:∀i,s1+n1<=i->i < s1+n1+nb->K ar i < K ar (s1+n1 - 1):=λi g1 g2=>by have:=j2 (i - (s1+n1)) (by omega);rw[show s1+n1+(i - (s1+n1))=i by omega] at this;simpa [bey] using this
 have w4:∀i,s1+n1+nb<=i->i < s1+n1+n2->K ar (s1+n1 - 1)<=K ar i:=λi g1 g2=>by have:=j3 (i - (s1+n1)) (by omega) (by omega);rw[show s1+n1+(i - (s1+n1))=i by omega] at this;simpa [bey] using this
 by_cases z2:nb=0
 ·rw[if_pos (by simpa using z2)];refine Je (h _ ⟨pm,rfl,rfl,⟨pw,rfl⟩,λi j g1 g2 g3=>?_,λ_ _=>rfl⟩);show K ar i<=K ar j;by_cases y1:j < s1+n1
  ·exact r1 i j (by omega) g2 (by omega)
  ·by_cases y2:i < s1+n1
   ·exact Ju (r1 i (s1+n1 - 1) (by omega) (by omega) (by omega)) (w4 j (by omega) (by omega))
   ·exact r2 i j (by omega) g2 (by omega)
 rw[if_neg (by simpa using z2)];have zX:(ar.extract (s1+k) (s1+n1)).size=n1 - k:=by rw[Array.size_extract];omega
 have zY:(ar.extract (s1+n1) (s1+n1+nb)).size=nb:=by rw[Array.size_extract];omega
 have kX:∀i,i < n1 - k->K (ar.extract (s1+k) (s1+n1)) i=K ar (s1+k+i):=λi g=>by rw[zpH (by omega) (by omega)]
 have kY:∀i,i < nb->K (ar.extract (s1+n1) (s1+n1+nb)) i=K ar (s1+n1+i):=λi g=>by rw[zpH (by omega) (by omega)]
 have sX:Sr (ar.extract (s1+k) (s1+n1)):=λi j g1 g2=>by rw[zX] at g2;rw[kX i (by omega),kX j g2];exact r1 _ _ (by omega) (by omega) (by omega)
 have sY:Sr (ar.extract (s1+n1) (s1+n1+nb)):=λi j g1 g2=>by rw[zY] at g2;rw[kY i (by omega),kY j g2];exact r2 _ _ (by omega) (by omega) (by omega)
 have fin:∀(M:QL) (st':SortSt),Mg (ar.extract (s1+k) (s1+n1)) (ar.extract (s1+n1) (s1+n1+nb)) M->Sm (SortSt.mk' oneType' ar ((pe.setIfInBounds i (s1,n1+n2,pw)).eraseIdxIfInBounds (i+1)) g none) st'->Gd a₀ (SortSt.mk' oneType' ar pe g none) (setArr st' (lay (s1+k) (arrOf st') M.toList.zipIdx)) i s1 n1 n2:=λM st' mg sm=>by
  obtain⟨l1',l2',l3',l4'⟩:=zjT (i:=s1+k) (m:=s1+n1) (j:=s1+n1+nb) (by omega) (by omega) (by omega) mg;have ar':arrOf st'=ar:=sm.ar;have eA:arrOf (setArr st' (lay (s1+k) (arrOf st') M.toList.zipIdx))=lay (s1+k) ar M.toList.zipIdx:=by show lay (s1+k) (arrOf st') M.toList.zipIdx=_;rw[ar']
  refine⟨by rw[eA];exact l1'.trans pm,sm.kd,sm.fl,⟨pw,sm.pn⟩,λa b g1 g2 g3=>?_,λa ha=>?_⟩
  ·rw[eA];by_cases y1:b < s1+k
   ·rw[l2' a (by omega),l2' b (by omega)];exact r1 a b g1 g2 (by omega)
   by_cases y2:b < s1+n1+nb
   ·by_cases y3:a < s1+k
    ·obtain⟨c,c1,c2,c3⟩:=l4' b (by omega) y2;rw[l2' a (by omega),c3];by_cases y4:c < s1+n1
     ·exact r1 a c g1 (by omega) (by omega)
     ·exact Ju (w1 a g1 y3) (r2 (s1+n1) c (by omega) (by omega) (by omega))
    ·exact l3' a b (by omega) g2 y2
   ·rw[l2' b (by omega)];by_cases y3:a < s1+k
    ·rw[l2' a (by omega)];exact Ju (w1 a g1 y3) (r2 (s1+n1) b (by omega) (by omega) (by omega))
    by_cases y5:a < s1+n1+nb
    ·obtain⟨c,c1,c2,c3⟩:=l4' a (by omega) y5;rw[c3];by_cases y4:c < s1+n1
     ·exact Ju (r1 c (s1+n1 - 1) (by omega) (by omega) (by omega)) (w4 b (by omega) (by omega))
     ·exact r2 c b (by omega) (by omega) (by omega)
    ·rw[l2' a (by omega)];exact r2 a b (by omega) g2 (by omega)
  ·rw[eA];exact l2' a (by omega)
 by_cases z3:n1 - k<=nb
 ·rw[if_pos z3];refine Jc (zhV rfl (zez hi _ _) (zez hi _ _) sX sY (by rw[zX];omega) (by rw[zY];omega) (by rw[kX 0 (by omega),kY 0 (by omega)];exact Jr (w2 _ (by omega) (by omega))) (λj g=>by rw[zY] at g;rw[zX,kX _ (by omega),kY j g,show s1+k+(n1 - k - 1)=s1+n1 - 1 by omega];exact Jr (w3 _ (by omega) (by omega))) λM st' mg sm=>?_);refine Jc (wpS_modify (Jc (wpS_get ?_)));have fl':failedOf st'=none:=sm.fl;have e:wpS (model prog w) A E s (pure (failedOf st').isNone) Q (setArr st' (lay (s1+k) (arrOf st') M.toList.zipIdx)):=by rw[fl'];exact Je (h _ (fin M st' mg sm))
  exact e
 ·rw[if_neg z3];refine Jc (zhM rfl (zez hi _ _) (zez hi _ _) sX sY (by rw[zX];omega) (by rw[zY];omega) (by rw[zY,zX,kX _ (by omega),kY _ (by omega),show s1+k+(n1 - k - 1)=s1+n1 - 1 by omega];exact Jr (w3 _ (by omega) (by omega))) (λj g=>by rw[zX] at g;rw[kX j g,kY 0 (by omega)];exact Jr (w2 _ (by omega) (by omega))) λM st' mg sm=>?_);refine Jc (wpS_modify (Jc (wpS_get ?_)));have fl':failedOf st'=none:=sm.fl;have e:wpS (model prog w) A E s (pure (failedOf st').isNone) Q (setArr st' (lay (s1+k) (arrOf st') M.toList.zipIdx)):=by rw[fl'];exact Je (h _ (fin M st' mg sm))
  exact e
end
end Ps
namespace Ps
open PySem PyProof.Rows
def Runs (ar:QL):Nat->List (Nat ×Nat ×Nat)->Nat->Prop
 | a,[],b=>a=b
 | a,x::r,b=>x.1=a/\0 < x.2.1/\SrI ar a x.2.1/\Runs ar (a+x.2.1) r b
theorem Runs.le {ar:QL}:∀{l:List (Nat ×Nat ×Nat)} {a b:Nat},Runs ar a l b->a+l.length<=b
 | [],a,b,h=>by have:a=b:=h;simp;omega
 | x::r,a,b,h=>by have:=Runs.le h.2.2.2;have:=h.2.1;rw[List.length_cons];omega
theorem Runs.congr {ar ar':QL}:∀{l:List (Nat ×Nat ×Nat)} {a b:Nat},Runs ar a l b->(∀i,a<=i->i < b->K ar' i=K ar i)->Runs ar' a l b
 | [],a,b,h,_=>h
 | x::r,a,b,h,k=>by have hb:=Runs.le h.2.2.2;refine⟨h.1,h.2.1,λi j g1 g2 g3=>?_,Runs.congr h.2.2.2 λi g1 g2=>k i (by omega) g2⟩;rw[k i (by omega) (by omega),k j (by omega) (by omega)];exact h.2.2.1 i j g1 g2 g3
theorem Runs.split {ar:QL}:∀{l m:List (Nat ×Nat ×Nat)} {a b:Nat},Runs ar a (l++m) b->∃c,Runs ar a l c/\Runs ar c m b
 | [],m,a,b,h=>⟨a,rfl,h⟩
 | x::r,m,a,b,h=>by obtain⟨c,h1,h2⟩:=Runs.split (l:=r) h.2.2.2;exact⟨c,⟨h.1,h.2.1,h.2.2.1,h1⟩,h2⟩
theorem Runs.app {ar:QL}:∀{l m:List (Nat ×Nat ×Nat)} {a b c:Nat},Runs ar a l c->Runs ar c m b->Runs ar a (l++m) b
 | [],m,a,b,c,h,h'=>by have:a=c:=h;subst this;exact h'
 | x::r,m,a,b,c,h,h'=>⟨h.1,h.2.1,h.2.2.1,Runs.app h.2.2.2 h'⟩
structure Gs (a₀:QL)(st:SortSt)(lo:Nat):Prop where
 perm:(arrOf st).Perm a₀
 kd:kindOf st=oneType'
 fl:failedOf st=none
 rn:Runs (arrOf st) 0 (pendingOf st).toList lo
theorem zp3 {l:List (Nat ×Nat ×Nat)}{i:Nat}(h:i+1 < l.length):∃pre x y post,l=pre++x::y::post/\pre.length=i:=by
 refine⟨l.take i,l[i],l[i+1],l.drop (i+2),?_,by rw[List.length_take];omega⟩
 conv=>lhs;rw[<-List.take_append_drop i l]
 rw[Jo (by omega),Jo h]
theorem zmQ {pe:Array (Nat ×Nat ×Nat)}{pre post:List (Nat ×Nat ×Nat)}{x y z:Nat ×Nat ×Nat}(h:pe.toList=pre++x::y::post):((pe.setIfInBounds pre.length z).eraseIdxIfInBounds (pre.length+1)).toList=pre++z::post:=by
 have e1:(pe.setIfInBounds pre.length z).toList=pre++z::y::post:=by rw[Array.toList_setIfInBounds,h];simp
 have e2:((pe.setIfInBounds pre.length z).eraseIdxIfInBounds (pre.length+1)).toList=((pe.setIfInBounds pre.length z).toList).eraseIdx (pre.length+1):=by simp
 rw[e2,e1,List.eraseIdx_append_of_length_le (by omega),show pre.length+1 - pre.length=1 by omega]
 rfl
theorem Gd.size {a₀:QL}{st st':SortSt}{i s1 n1 n2:Nat}{pre post:List (Nat ×Nat ×Nat)}{x y:Nat ×Nat ×Nat}(g:Gd a₀ st st' i s1 n1 n2)(e:(pendingOf st).toList=pre++x::y::post)(ei:pre.length=i):∃pw,(pendingOf st').toList=pre++(s1,n1+n2,pw)::post:=by obtain⟨pw,h⟩:=g.pn;refine⟨pw,?_⟩;rw[h,<-ei];exact zmQ e
theorem ite_le (p:Prop) [Decidable p](a:Nat):(if p then a - 1 else a)<=a:=by split <;> omega
section
variable {prog:Program}{w:World}{A:Around}{E:QC}{s:Shared}{a₀:QL}
theorem zdO {st:SortSt}{i lo:Nat}{Q:Bool->SortSt->Prop}(h0:IntKeys a₀)(G:Gs a₀ st lo)(hlo:lo<=a₀.size)(hi:i+1 < (pendingOf st).size)
  (h:∀st',Gs a₀ st' lo->(pendingOf st').size+1=(pendingOf st).size->(∀a,lo<=a->K (arrOf st') a=K (arrOf st) a)->Q true st'):wpS (model prog w) A E s (mergeAt' i) Q st:=by
 obtain⟨pre,x,y,post,e,ei⟩:=zp3 (l:=(pendingOf st).toList) (i:=i) (by simpa using hi);have hr:=G.rn;rw[e] at hr;obtain⟨c,rp,rq⟩:=hr.split;obtain⟨x1,x2,x3,y1,y2,y3,ro⟩:=rq;obtain⟨xs,xn,xp⟩:=x;obtain⟨ys,yn,yp⟩:=y;dsimp only at x1 x2 x3 y1 y2 y3 ro;subst x1;subst y1;have hle:=ro.le;have hpl:=rp.le;have g1:(pendingOf st)[i]? =some (xs,xn,xp):=by rw[<-Array.getElem?_toList,e,<-ei,List.getElem?_append_right (Jb _),Nat.sub_self];rfl
 have g2:(pendingOf st)[i+1]? =some (xs+xn,yn,yp):=by rw[<-Array.getElem?_toList,e,<-ei,List.getElem?_append_right (by omega),show pre.length+1 - pre.length=1 by omega];rfl
 refine zjU h0 G.perm G.kd G.fl g1 g2 (by omega) x2 y2 x3 y3 λst' d=>?_;obtain⟨pw,ep⟩:=d.size e ei;refine h st' ⟨d.perm,d.kd,d.fl,?_⟩ ?_ λa ha=>d.out a (by omega)
 ·rw[ep];refine Runs.app (rp.congr λj j1 j2=>d.out j (by omega)) ⟨rfl,by show 0 < xn+yn;omega,d.srt,?_⟩;show Runs (arrOf st') (xs+(xn+yn)) post lo;rw[<-Nat.add_assoc];exact ro.congr λj j1 j2=>d.out j (by omega)
 ·have l1:(pendingOf st').toList.length=pre.length+(1+post.length):=by rw[ep,List.length_append,List.length_cons];omega
  have l2:(pendingOf st).toList.length=pre.length+(2+post.length):=by rw[e,List.length_append,List.length_cons,List.length_cons];omega
  rw[Array.length_toList] at l1 l2;omega
theorem zdp {st:SortSt}{lo n pw:Nat}(G:Gs a₀ st lo)(hn:0 < n)(hs:SrI (arrOf st) lo n):Gs a₀ (setPending st ((pendingOf st).push (lo,n,pw))) (lo+n):=by refine⟨G.perm,G.kd,G.fl,?_⟩;show Runs (arrOf st) 0 ((pendingOf st).push (lo,n,pw)).toList (lo+n);rw[Array.toList_push];exact G.rn.app ⟨rfl,hn,hs,rfl⟩
theorem zfv {st:SortSt}{lo pw:Nat}(G:Gs a₀ st lo):Gs a₀ (setPending st ((pendingOf st).modify ((pendingOf st).size - 1) λx=>(x.fst,x.2.fst,pw))) lo:=by
 refine⟨G.perm,G.kd,G.fl,?_⟩;show Runs (arrOf st) 0 ((pendingOf st).modify ((pendingOf st).size - 1) λx=>(x.fst,x.2.fst,pw)).toList lo;have hr:=G.rn;rw[Array.toList_modify];generalize(pendingOf st).size - 1=j;generalize(pendingOf st).toList=l at hr;generalize 0=a at hr
 induction l generalizing a j with
 | nil=>simpa using hr
 | cons x r ih=>
  cases j with
  | zero=>exact⟨hr.1,hr.2.1,hr.2.2.1,hr.2.2.2⟩
  | succ j=>exact⟨hr.1,hr.2.1,hr.2.2.1,ih j _ hr.2.2.2⟩
theorem zl6 {st:SortSt}{Q:Unit->SortSt->Prop}(h0:IntKeys a₀)(hB:SBase a₀ st)
  (h:∀st',(arrOf st').Perm a₀->failedOf st'=none->SortedTo (arrOf st') a₀.size->Q () st'):wpS (model prog w) A E s sortRuns' Q st:=by
 rw[sortRuns'_eq];refine Jc (wpS_get ?_);dsimp only;simp only[hB.size];generalize minRun' a₀.size a₀.size 0=mr;have G0:Gs a₀ st 0:=⟨hB.perm,hB.kind,hB.failed,by rw[hB.pend];rfl⟩;refine Jc (wpS_mono (wpS_forRange
  (I:=λx c st'=>∃lo,c=(none,lo)/\lo<=a₀.size/\Gs a₀ st' lo/\(x<=lo\/lo=a₀.size))
  (Q:=λc st'=>c=(none,a₀.size)/\Gs a₀ st' a₀.size) ?step ?fin ⟨0,rfl,Nat.zero_le _,G0,.inl (Jb _)⟩) ?post)
 case fin=>
  rintro c st' ⟨lo,rfl,hle,G,hx⟩;have:lo=a₀.size:=by omega
  subst this;exact⟨rfl,G⟩
 case step=>
  rintro x c st' _ hx ⟨lo,rfl,hle,G,hxl⟩;dsimp only;by_cases z:lo≥a₀.size
  ·rw[if_pos z];have:lo=a₀.size:=by omega
   subst this;exact Je ⟨rfl,G⟩
  rw[if_neg z];have B0:Bs a₀ st' st' lo:=⟨G.perm,G.kd,G.fl,rfl,λ_ _=>rfl⟩;refine Jc (zj1 h0 B0 (by omega) (by omega) λm st2 B2 hm1 hm2 hs2=>?_);dsimp only;have toG:∀st2,Bs a₀ st' st2 lo->Gs a₀ st2 lo:=λst2 B2=>⟨B2.perm,B2.kd,B2.fl,by rw[B2.pn];exact G.rn.congr λj _ j2=>B2.pf j j2⟩;by_cases hlt:m < mr
  ·rw[if_pos hlt];refine Jc (wpS_lift (wpAny_rule ⟨rfl,?_⟩));refine Jc (zmL h0 B2 (n:=min (a₀.size - lo) mr) (by omega) (by omega) hs2 λst3 B3 hs3=>?_);simp only[Bool.not_true,Bool.false_eq_true,if_false];have G3:=toG st3 B3;have hn1:0 < min (a₀.size - lo) mr:=by omega
   have hn2:lo+min (a₀.size - lo) mr<=a₀.size:=by omega
   generalize min (a₀.size - lo) mr=n at hs3 hn1 hn2;clear B3 B2 hs2;refine Jc (wpS_get ?_);cases hb:(pendingOf st3).back? with
   | none=>dsimp only;refine Jc (wpS_modify (Je ⟨lo+n,rfl,hn2,zdp G3 hn1 hs3,.inl (by omega)⟩))
   | some p0=>
    obtain⟨s1,n1,pq⟩:=p0;dsimp only;refine Jc (wpS_mono (wpS_forRange (I:=λ_ c st''=>c=(none,())/\Gs a₀ st'' lo/\SrI (arrOf st'') lo n) (Q:=λc st''=>c=(none,())/\Gs a₀ st'' lo/\SrI (arrOf st'') lo n) ?_ (λ_ _ hh=>hh) ⟨rfl,G3,hs3⟩) ?_)
    ·rintro y c st4 _ _ ⟨rfl,G4,hs4⟩;refine Jc (wpS_get ?_);by_cases y1:(pendingOf st4).size > 1
     ·rw[if_pos y1];cases y2:(pendingOf st4)[(pendingOf st4).size - 2]? with
      | none=>exact Je ⟨rfl,G4,hs4⟩
      | some p1=>
       obtain⟨a1,a2,older⟩:=p1;dsimp only;split
       ·exact Je ⟨rfl,G4,hs4⟩
       ·refine Jc (zdO h0 G4 hle (by omega) λst5 G5 _ hk=>?_);simp only[Bool.not_true,Bool.false_eq_true,if_false];exact Je ⟨rfl,G5,λi j g1 g2 g3=>by rw[hk i g1,hk j (by omega)];exact hs4 i j g1 g2 g3⟩
     ·rw[if_neg y1];exact Je ⟨rfl,G4,hs4⟩
    ·rintro c st4 ⟨rfl,G4,hs4⟩;dsimp only;refine Jc (wpS_modify (Jc (wpS_modify (Je ⟨lo+n,rfl,hn2,zdp (zfv G4) hn1 hs4,.inl (by omega)⟩))))
  ·rw[if_neg hlt];have G3:=toG st2 B2;have hn1:0 < m:=by omega
   have hn2:lo+m<=a₀.size:=by omega
   have hs3:=hs2;clear B2 hs2;generalize m=n at hs3 hn1 hn2;generalize st2=st3 at hs3 G3;refine Jc (wpS_get ?_);cases hb:(pendingOf st3).back? with
   | none=>dsimp only;refine Jc (wpS_modify (Je ⟨lo+n,rfl,hn2,zdp G3 hn1 hs3,.inl (by omega)⟩))
   | some p0=>
    obtain⟨s1,n1,pq⟩:=p0;dsimp only;refine Jc (wpS_mono (wpS_forRange (I:=λ_ c st''=>c=(none,())/\Gs a₀ st'' lo/\SrI (arrOf st'') lo n) (Q:=λc st''=>c=(none,())/\Gs a₀ st'' lo/\SrI (arrOf st'') lo n) ?_ (λ_ _ hh=>hh) ⟨rfl,G3,hs3⟩) ?_)
    ·rintro y c st4 _ _ ⟨rfl,G4,hs4⟩;refine Jc (wpS_get ?_);by_cases y1:(pendingOf st4).size > 1
     ·rw[if_pos y1];cases y2:(pendingOf st4)[(pendingOf st4).size - 2]? with
      | none=>exact Je ⟨rfl,G4,hs4⟩
      | some p1=>
       obtain⟨a1,a2,older⟩:=p1;dsimp only;split
       ·exact Je ⟨rfl,G4,hs4⟩
       ·refine Jc (zdO h0 G4 hle (by omega) λst5 G5 _ hk=>?_);simp only[Bool.not_true,Bool.false_eq_true,if_false];exact Je ⟨rfl,G5,λi j g1 g2 g3=>by rw[hk i g1,hk j (by omega)];exact hs4 i j g1 g2 g3⟩
     ·rw[if_neg y1];exact Je ⟨rfl,G4,hs4⟩
    ·rintro c st4 ⟨rfl,G4,hs4⟩;dsimp only;refine Jc (wpS_modify (Jc (wpS_modify (Je ⟨lo+n,rfl,hn2,zdp (zfv G4) hn1 hs4,.inl (by omega)⟩))))
 case post=>
  rintro c st' ⟨rfl,G⟩;dsimp only;refine Jc (wpS_mono (wpS_forRange (I:=λx c st''=>c=(none,())/\Gs a₀ st'' a₀.size/\((pendingOf st'').size<=1\/(pendingOf st'').size+x<=a₀.size)) (Q:=λc st''=>c=(none,())/\Gs a₀ st'' a₀.size/\(pendingOf st'').size<=1) ?_ ?_ ⟨rfl,G,.inr (by have:=G.rn.le;rw[Array.length_toList] at this;omega)⟩) ?_)
  ·rintro x c st2 _ hx ⟨rfl,G2,hh⟩;refine Jc (wpS_get ?_);by_cases y:(pendingOf st2).size<=1
   ·rw[if_pos y];exact Je ⟨rfl,G2,y⟩
   rw[if_neg y];refine Jc ?_;have hi:(if (if (pendingOf st2).size - 2 > 0 then Option.map (λx=>x.2.1) (pendingOf st2)[(pendingOf st2).size - 2 - 1]? else none).any (λx=>decide (x < (pendingOf st2)[(pendingOf st2).size - 2+1]?.elim 0 λx=>x.2.1))=true then(pendingOf st2).size - 2 - 1 else(pendingOf st2).size - 2)+1 < (pendingOf st2).size:=Nat.lt_of_le_of_lt (Nat.succ_le_succ (ite_le _ _)) (by omega);refine zdO h0 G2 (Jb _) hi λst3 G3 hsz _=>?_;simp only[Bool.not_true,Bool.false_eq_true,if_false];exact Je ⟨rfl,G3,by omega⟩
  ·rintro c st2 ⟨rfl,G2,hh⟩;exact⟨rfl,G2,by omega⟩
  ·rintro c st2 ⟨rfl,G2,hsz⟩;dsimp only;refine Je (h _ G2.perm G2.fl ?_);have hr:=G2.rn;have hl:(pendingOf st2).toList.length<=1:=by rw[Array.length_toList];exact hsz
   generalize(pendingOf st2).toList=l at hr hl
   match l,hr,hl with
   | [],hr,_=>have:0=a₀.size:=hr;intro i j _ hj;omega
   | [x],hr,_=>obtain⟨_,_,h3,h4⟩:=hr;have h4':0+x.2.1=a₀.size:=h4;intro i j hij hj;exact h3 i j (by omega) hij (by omega)
end
end Ps
set_option maxHeartbeats 4000000
namespace Ps
open PySem PyProof.Rows
section
variable {prog:Program}{w:World}{A:Around}{E:QC}{s:Shared}
theorem list_sortG {a:Addr}{vs:QN}{ns:List Int}{n:Nat}{P:Fin->Shared->Prop}(ho:s.heap.get? a=some (seqObj "list" vs.toArray n))
  (hI:IntsAre vs ns) (hz:vs.length<=sizeLine)
  (h:∀(out:Array Value) (ns':List Int),IntsAre out.toList ns'->ns'.Perm ns->ns'.Pairwise (· <= ·)->P (.done (.ret .none)) {s with heap:=sortedHeap s.heap a vs out}):
  wpAny (model prog w) A (Builtin.«list.sort» ⟨[.ref a],[]⟩) P E s:=by
 by_cases lt:vs.length < 64
 ·exact list_sort_tree ho hI lt h
 have e64:64<=vs.length:=by omega
 rw[list_sort_plain];have ha:a < s.heap.objs.size:=Heap.lt_size ho;have hsz:vs.toArray.size=vs.length:=by simp
 refine Ja (listItems_at ho rfl ?_);refine Ja (listUpdate_at ho rfl ?_ (hsz:=by rw[hsz];exact hz));obtain⟨e1,ho1⟩:∃e1,(s.heap.update a (Obj.mapSeq λ_=> #[])).get? a=some (seqObj "list" #[] e1):=⟨_,get?_update_seq ho (λ_=> #[])⟩;refine Ja (seqEpoch_at ho1 rfl ?_);refine Ja (wpAny_newTuple ?_ (by rw[List.toList_toArray];exact hz));refine Ja (wpAny_newList ?_);refine wpAny_holding ?_;have ho6:(((s.heap.update a (Obj.mapSeq λ_=> #[])).push (seqObj "tuple" vs.toArray 0)).push (seqObj "list" #[] 0)).get? a=some (seqObj "list" #[] e1):=by
  rw[Heap.get?_push_ne _ _ _ (by rw[size_push',Heap.size_update];exact Jm (Nat.lt_succ_of_lt ha)),Heap.get?_push_ne _ _ _ (by rw[Heap.size_update];exact Jm ha)]
  exact ho1
 show wpAny (model prog w) A _ P E {s with heap:=((s.heap.update a (Obj.mapSeq λ_=> #[])).push (seqObj "tuple" vs.toArray 0)).push (seqObj "list" #[] 0)};dsimp only;have h2:¬vs.toArray.size < 2:=by rw[hsz];omega
 rw[if_neg h2,if_neg h2];have kk:keyKind' vs.toArray=pure oneType':=by
  match vs,hI,e64 with
  | [],_,e=>simp at e
  | [_],_,e=>simp at e
  | v₁::v₂::rest,hI,_=>exact keyKind_ints hI
 rw[kk];refine Ja (wpAny_pure ?_);refine Ja (wpAny_mono (zl6 (a₀:=pairsOf vs) (st:=SortSt.mk' oneType' (vs.toArray.zip vs.toArray) #[] 7 none)
  (Q:=λ_ st'=>(arrOf st').Perm (pairsOf vs)/\failedOf st'=none/\SortedTo (arrOf st') (pairsOf vs).size)
  hI.intKeys ⟨Array.Perm.refl _,rfl,rfl,rfl⟩ λst' a1 a2 a3=>⟨a1,a2,a3⟩) ?_ λ_ _ e=>e)
 rintro⟨⟨⟩,st'⟩ s' ⟨rfl,hp,hf,hs⟩;dsimp only;refine Ja (seqEpoch_at ho6 rfl ?_);refine Ja (listUpdate_at ho6 rfl ?_ (hsz2:=by refine Jn (Nat.le_of_eq ((Array.size_map ..).trans (hp.size_eq.trans (pairsOf_size _)))) ?_;omega));rw[hf];simp only[bne_self_eq_false,Bool.false_eq_true,if_false];obtain⟨ns',h1,h2,h3⟩:=sorted_out hI hp hs;exact wpAny_pure (h _ ns' h1 h2 h3)
end
end Ps
namespace L2
open PySem PySem.Spec PyProof.Rows
section
variable {X:Cx}
theorem zg3 (hc:X.calm=true):zbn X (.builtin "sorted") (λxs H Q=>∃(d:Addr) (kvs:QG),xs=[.ref d]/\H d=some (.dK kvs)/\IntKeys kvs/\
  ∀(l:Addr) (ns:List Int),H l=none->ns.Perm (zc7 kvs)->ns.Pairwise (· <= ·)->Q (.ref l) (upd H l (.lst (ns.map V.int)))):=by
 intro pins s σ H xs us Q I r h;obtain⟨d,kvs,rfl,hd,hi,q⟩:=h;obtain⟨u,rfl,ru⟩:=vals1 r;cases (show u=Value.ref d from ru);obtain⟨hz,lo,vs,rel,hD⟩:=I.hok d _ hd;obtain⟨ep,hat⟩:=hD.dictAt;have hl:=rel.at.1;have hkl:=zhX hi;refine Calls.call_function_entry kind_sorted plain_sorted entry_sorted (args_sorted1 _) ?_;unfold Builtin.«sorted»;refine Ja (m:=checkCount "sorted" 1 1 _) (wpAny_pure ?_);refine Ja (gathered (A:=X.A.in1) (PySem.W.kdl_dict (knd:=zaJ X.prog X.w) (kvs:=vs) (ep:=ep) lo) (show X.A.in1.handled=none from I.ok.hd hc) hat (by rw[<-hl];exact hz) λh' tk acc hk hlt hacc=>?_);have la:acc.toList.length=vs.length:=by rw[Array.length_toList];exact hacc.1
 refine Ja (wpAny_newList ?_ (by rw[la,<-hl];exact hz));have hI:IntsAre acc.toList (zc7 kvs):=zgG (by omega) λj v e=>by obtain⟨k,x,e1,e2⟩:=hacc.2 j v (by rw[<-Array.getElem?_toList];exact e);obtain⟨t,e3,_⟩:=zpd rel hi e1 e2;exact⟨t,e3⟩
 have hoL:(h'.push (seqObj "list" acc.toList.toArray 0)).get? h'.objs.size=some (seqObj "list" acc.toList.toArray 0):=Heap.get?_push_size _ rfl;refine Ja (wpAny_holding (wpAny_call_entry slot_list_sort ⟨_,hoL,rfl⟩ entry_list_sort (Ps.list_sortG hoL hI (by rw[la,<-hl];exact hz) λout ns' a1 a2 a3=>⟨_,rfl,?_⟩) (args_list_sort _)));refine wpAny_pure ⟨_,rfl,?_⟩;have sz:s.heap.objs.size<=h'.objs.size:=Nat.le_of_lt hlt;have kk:∀b u,s.heap.get? b=some u->(sortedHeap (h'.push (seqObj "list" acc.toList.toArray 0)) h'.objs.size acc.toList out).get? b=some u:=λb u e=>by have e1:=hk b u e;have lt:=Heap.lt_size e1;rw[sortedHeap_old (Jm lt) (by rw[size_push'];exact Nat.lt_succ_of_lt lt)];exact Heap.get?_push_of_some _ e1
 obtain⟨e,he⟩:=sortedHeap_at (out:=out) hoL;have hn:H h'.objs.size=none:=I.hok.fresh sz;refine⟨.ref h'.objs.size,_,I.laid (o:=.lst (ns'.map V.int)) kk sz ⟨?_,out.toList,e,zeL a1,he⟩,rfl,q _ ns' hn a2 a3⟩;rw[List.length_map,a2.length_eq,hkl];exact hz
end
end L2
namespace Pv
open PySem L2
noncomputable abbrev zh0:Stmt:=top 50
theorem znY:zr ["laid"] ["laid"] (zh zh0):=L2.fsc (by decide+kernel)
noncomputable abbrev zbd:Stmt:=inClass (top 52) 0
theorem zfC:zr ["self"] ["self"] (zh zbd):=L2.fsc (by decide+kernel)
def zmB (cs:QF)(H:Hp)(Q:VK):Prop:=∀(l:Addr) (ns:List Int) (xs:QQ) (H':Hp),Same H H'->H l=none->ns.Perm (cs.map (·.1))->ns.Pairwise (· <= ·)->H' l=some (.lst xs)->RepL H' (zaI cs ns) xs->Q (.ref l) H'
def zgy:Sp:=λvs H Q _=>∃(d:Addr) (kvs:QG) (cs:QF),vs=[.ref d]/\H d=some (.dK kvs)/\DRep H cs kvs/\cs.length<=1000000/\zmB cs H Q
def zjh (C:Addr):Sp:=λvs H Q _=>∃(a d:Addr) (kvs:QG) (cs:QF),vs=[.ref a]/\VOk H C a d kvs/\DRep H cs kvs/\cs.length<=1000000/\zmB cs H Q
section
variable {P:Program}{w:World}{K:QA}{mg:QB}{base:Heap}{C CC:Addr}{x:Str}
theorem zrt {cs:QF}{kvs:QG}{H:Hp}{d l:Addr}{ns:List Int}(r:DRep H cs kvs)(hl:H l=none)(hp:ns.Perm (zc7 kvs)):ns.Perm (cs.map (·.1))/\∀n∈ns,∃t v,zD cs n=some t/\valV kvs (.inl n)=some v/\Rep H t v:=by rw[r.keys.1] at hp;refine⟨hp,λn hn=>?_⟩;obtain⟨t,e⟩:=zeK (hp.subset hn);obtain⟨v,e',rv⟩:=r.some e;exact⟨t,v,e,e',rv⟩
theorem zmc (D:Dfn K mg "rising" zh0 ["laid"]) (zgX:mg "sorted" =none):Fn P w K mg base "rising" 1 ["laid"] zgy:=by
 refine D.ok (k:=0) znY (λvs H Q E h=>?_) (λf cdv A outer s H vs Q E hr h=>?_)
 ·obtain⟨d,kvs,cs,rfl,_⟩:=h;rfl
 obtain⟨d,kvs,cs,rfl,ed,dr,h64,q⟩:=h;refine⟨_,(zd (zm (zgt (zaj.one (y:= "laid") (j:=0) (c:=s.heap.objs.size+1) (by rfl) (by rfl) (by decide+kernel) (by decide+kernel) (by rfl) (by decide+kernel) (by rfl) (by decide+kernel) (by rfl) (by first | exact Or.inl rfl | exact Or.inr rfl) (by first | exact Or.inl rfl | exact Or.inr rfl)) rfl (zbG (zH (zg3 rfl) (by rfl) zgX (by rfl) (za (pv 0) zc))) (λ_ _ _=>zfU) (λ_ _ _=>(zds (zck hr) (pv 1) (pv 0) (λ_ _=>rfl)))))),?_⟩;refine⟨_,rfl,d,kvs,rfl,ed,dr.keys.2,λl ns hl hp hs=>?_⟩;obtain⟨hp',all⟩:=zrt (d:=d) dr hl hp;have e1:upd H l (.lst (ns.map V.int)) l=some (.lst (ns.map V.int)):=zj;have s1:Same H (upd H l (.lst (ns.map V.int))):=zk (Same.refl H) hl;generalize upd H l (.lst (ns.map V.int))=H1 at e1 s1;refine⟨l,rfl,⟨_,SqL.of e1⟩,λp hp1=>?_⟩;have hn64:ns.length<=1000000:=by rw[hp'.length_eq,List.length_map];exact h64
 refine zeq (n:=ns.length) (λi acc H'=>Same H1 H'/\H' p=some (.lst acc)/\acc.length=i/\RepL H' (zaI cs (ns.take i)) acc) ⟨zk (Same.refl H1) hp1,zj,rfl,.nil⟩ ?_ ?_ ?_ ?_
 ·rintro i acc H' hi ⟨sm,ep,la,rr⟩;exact⟨ns.map V.int,.int ns[i],SqL.of (sm _ _ e1),by rw[List.getElem?_map,List.getElem?_eq_getElem hi];rfl⟩
 ·rintro acc H' ⟨sm,ep,la,rr⟩;exact⟨ns.map V.int,SqL.of (sm _ _ e1),by rw[List.length_map];exact Jb _⟩
 ·rintro i acc H' y H'' hi ⟨sm,ep,la,rr⟩ ⟨z1,z2⟩;subst z1;have ey:=z2 (ns.map V.int) (SqL.of (sm _ _ e1));have ey2:y=V.int ns[i]:=by rw[List.getElem?_map,List.getElem?_eq_getElem hi] at ey;exact(Option.some.inj ey).symm
  subst ey2;obtain⟨t,v,lt,lv,rv⟩:=all ns[i] (Jp hi);have dg:DGet H'' d (.int ns[i]) (some v):=by rw[<-lv];exact DGet.k (k:=Sum.inl ns[i]) (sm _ _ (s1 _ _ ed))
  refine tt1 ?_;refine⟨_,rfl,_,rfl,d,v,rfl,dg,ep,Jg (show acc.length < 1000000 by omega) (by decide+kernel),nxt hi ⟨zbN sm hp1,zj,by rw[List.length_append,la];rfl,?_⟩⟩;have tk:Tups H'' (upd H'' p (.lst (acc++ [v]))):=Tups.upd λxs z=>by rw[ep] at z;cases z
  have ew:zaI cs (ns.take (i+1))=zaI cs (ns.take i)++ [t]:=by unfold zaI;rw[List.take_add_one,List.getElem?_eq_getElem hi,List.map_append];show _++ [(zD cs ns[i]).getD .non]=_;rw[lt];rfl
  rw[ew];exact RepL.snoc ((rv.keep (Same.tups (λb o e=>sm b o (s1 b o e)))).keep tk) (rr.keep tk)
 ·rintro acc H' ⟨sm,ep,la,rr⟩;rw[List.take_length] at rr;refine q p ns acc H' (λb o e=>sm b o (s1 b o e)) ?_ hp' hs ep rr;cases z:H p with
  | none=>rfl
  | some o=>rw[s1 _ _ z] at hp1;cases hp1
theorem zlw (D:Mdf K C "things" "Keeper.things" zbd ["self"]) (zgY:Fn P w K mg base "rising" 1 ["laid"] zgy) (c:Cls K C) (nl:zR K C "laid"):Mt P w K mg base CX0 C "things" 2 ["self"] (zjh C):=by
 refine D.ok (k:=1) zfC (λvs H Q E h=>?_) (λf cdv A outer s H vs Q E hr h=>?_)
 ·obtain⟨a,d,kvs,cs,rfl,_⟩:=h;rfl
 obtain⟨a,d,kvs,cs,rfl,⟨⟨dx,fs,eo,fl⟩,ed⟩,dr,h64,q⟩:=h;exact⟨_,(zd (zm (zF zgY hr (by omega) (by rfl) (za (zaY (pv 0) (by rfl)) zc)))),_,rfl,a,C,dx,_,_,rfl,eo,c,nl,fl.la,d,kvs,cs,rfl,ed,dr,h64,q⟩
end
end Pv
namespace Pv
open PySem L2
noncomputable abbrev zaW:Stmt:=inClass (top 53) 0
theorem zd5:zr ["self","keeper"] ["self","keeper"] (zh zaW):=L2.fsc (by decide+kernel)
noncomputable abbrev zb4:Stmt:=inClass (top 53) 1
theorem zew:zr ["self","thing","number"] ["self","thing"] (zh zb4):=L2.fsc (by decide+kernel)
noncomputable abbrev zbv:Stmt:=inClass (top 53) 2
theorem zda:zr ["self","number","read"] ["self","number"] (zh zbv):=L2.fsc (by decide+kernel)
noncomputable abbrev zbw:Stmt:=inClass (top 53) 3
theorem zgR:zr ["self"] ["self"] (zh zbw):=L2.fsc (by decide+kernel)
noncomputable def rFs (dl kp dn:Addr):List (Str ×V):=[("laid",.ref dl),("keeper",.ref kp),("noted",.ref dn)]
theorem zfu (dl kp dn:Addr):Flds (rFs dl kp dn) dl:=⟨rfl,rfl,rfl,rfl,rfl,rfl⟩
structure ROk (H:Hp)(R a dl kp dn:Addr)(kvs nvs:QG):Prop where
 ob:∃dx,H a=some (.ins R dx (rFs dl kp dn))
 di:H dl=some (.dK kvs)
 no:H dn=some (.dK nvs)
theorem ROk.keep {H H':Hp}{R a dl kp dn:Addr}{kvs nvs:QG}(v:ROk H R a dl kp dn kvs nvs)(s:Same H H'):ROk H' R a dl kp dn kvs nvs:=by obtain⟨⟨dx,e⟩,e2,e3⟩:=v;exact⟨⟨dx,s _ _ e⟩,s _ _ e2,s _ _ e3⟩
theorem ROk.vok {H:Hp}{R a dl kp dn:Addr}{kvs nvs:QG}(v:ROk H R a dl kp dn kvs nvs):VOk H R a dl kvs:=by obtain⟨⟨dx,e⟩,e2,e3⟩:=v;exact⟨⟨dx,_,e,zfu dl kp dn⟩,e2⟩
def zfG (R:Addr):Sp:=λvs H Q _=>∃(a kp dx:Addr),vs=[.ref a,.ref kp]/\H a=some (.ins R dx [])/\
 ∀(dl dn:Addr) (H':Hp),(∀b o,b≠a->H b=some o->H' b=some o)->H dl=none->H dn=none->dl≠dn->H' a=some (.ins R dx (rFs dl kp dn))->H' dl=some (.dK [])->H' dn=some (.dK [])->Q .non H'
def Alike (H:Hp)(kvs:QG)(t:Th):Prop:=∀t1 v1,valV kvs (.inl (zE t))=some v1->Rep H t1 v1->t1=t
def znB (R C CC:Addr):Sp:=λvs H Q E=>∃(a dl kp dn dk:Addr) (kvs nvs kvk:QG) (t:Th) (v:V),vs=[.ref a,v]/\ROk H R a dl kp dn kvs nvs/\VOk H C kp dk kvk/\zcL H kvs/\zcL H kvk/\kvs.length<=1000000/\Rep H t v/\Good t/\
 (∀H',Same H H'->Alike H kvs t->Alike H kvk t->Q (.int (zE t)) (upd H' dl (.dK (putK kvs (.inl (zE t)) v))))/\
 (∀t1 v1 H',Same H H'->(valV kvs (.inl (zE t))=some v1\/(Alike H kvs t/\valV kvk (.inl (zE t))=some v1))->Rep H' t1 v1->Good t1->zE t1=zE t->t1≠t->zh1 E CC H' t1 t v1 v)
def zi7 (R C CN:Addr):Sp:=λvs H Q E=>∃(a dl kp dn dk:Addr) (kvs nvs kvk:QG) (n:Int),vs=[.ref a,.int n]/\ROk H R a dl kp dn kvs nvs/\VOk H C kp dk kvk/\nvs.length<=1000000/\
 (∀v,valV kvs (.inl n)=some v->Q v H)/\(∀v,valV kvs (.inl n)=none->valV kvk (.inl n)=some v->Q v (upd H dn (.dK (putK nvs (.inl n) v))))/\(valV kvs (.inl n)=none->valV kvk (.inl n)=none->E (.ref CN) none H)
def zhR (R:Addr):Sp:=λvs H Q _=>∃(a dl kp dn:Addr) (kvs nvs:QG) (cs:QF),vs=[.ref a]/\ROk H R a dl kp dn kvs nvs/\DRep H cs nvs/\cs.length<=1000000/\zmB cs H Q
section
variable {P:Program}{w:World}{K:QA}{mg:QB}{base:Heap}{R C CC CN:Addr}{x:Str}
theorem zmP (D:Kdf K mg "Vault" "__init__" "Vault.__init__" zaq ["self"]) (c:Cls K C) (nl:zR K C "laid"):Kfn P w K mg base "Vault" "__init__" 1 ["self"] (zd7 C):=by
 refine D.ok (k:=0) zct (λvs H Q E h=>?_) (λf cdv A outer s H vs Q E hr h=>?_)
 ·obtain⟨a,dx,rfl,_⟩:=h;rfl
 obtain⟨a,dx,rfl,ea,q⟩:=h;refine⟨_,(zd (zhJ (pv 0) zgT (by rfl))),?_⟩;intro d hd;exact⟨_,rfl,a,C,dx,[],rfl,by rw[zl (zo ea hd)];exact ea,c,nl,by decide,q d hd⟩
theorem zfj (a b:V):putF ("keeper" :Str) b [(("laid" :Str),a)]=[(("laid" :Str),a),(("keeper" :Str),b)]:=by
 unfold putF;rw[if_neg (by decide)]
 rfl
theorem zjL (a b c:V):putF ("noted" :Str) c [(("laid" :Str),a),(("keeper" :Str),b)]=[(("laid" :Str),a),(("keeper" :Str),b),(("noted" :Str),c)]:=by
 unfold putF;rw[if_neg (by decide)];unfold putF;rw[if_neg (by decide)]
 rfl
theorem znt (D:Mkd K mg x R "Reader.__init__" zaW ["self","keeper"]) (zff:Kfn P w K mg base "Vault" "__init__" 1 ["self"] (zd7 R)) (c:Cls K R) (nk:zR K R "keeper") (nn:zR K R "noted"):Mkr P w K mg base x R 2 ["self","keeper"] (zfG R):=by
 refine D.ok (k:=1) zd5 (λvs H Q E h=>?_) (λf cdv A outer s H vs Q E hr h=>?_)
 ·obtain⟨a,kp,dx,rfl,_⟩:=h;rfl
 obtain⟨a,kp,dx,rfl,ea,q⟩:=h;refine⟨_,(zb (zaU (zqs zff hr (by omega) (by rfl) (za (pv 0) zc)))
 (zb (zhJ (pv 0) (pv 1) (by rfl))
 (zd (zhJ (pv 0) zgT (by rfl))))),?_⟩
 refine⟨_,rfl,a,dx,rfl,ea,λdl hdl=>?_⟩;have ad:a≠dl:=zo ea hdl;refine⟨_,rfl,_,rfl,a,R,dx,_,rfl,zj,c,nk,(show(1:Nat) < 1000 by decide),?_⟩;intro dn hdn;have an:a≠dn:=λz=>by rw[<-z,zj] at hdn;cases hdn
 rw[zl (Ne.symm an),zl (Ne.symm an)] at hdn;have dd:dl≠dn:=λz=>by rw[<-z,zj] at hdn;cases hdn
 rw[zl (Ne.symm dd)] at hdn;refine⟨_,rfl,a,R,dx,_,rfl,by rw[zl an];exact zj,c,nn,by rw[zfj];exact(show(2:Nat) < 1000 by decide),?_⟩;rw[zfj,zjL];refine q dl dn _ (λb o hb e=>?_) hdl hdn dd zj ?_ ?_
 ·rw[zl hb,zl (zo e hdn),zl hb,zl hb,zl (zo e hdl)];exact e
 ·rw[zl (Ne.symm ad),zl dd,zl (Ne.symm ad),zl (Ne.symm ad)];exact zj
 ·rw[zl (Ne.symm an)];exact zj
theorem zow (D:Mdf K R "lay" "Reader.lay" zb4 ["self","thing"]) (zkf:Mt P w K mg base (CX1 P w) R "refuse_clash" 3 ["self","number","thing"] (zeu R CC)) (zkg:Mt P w K mg base (CX1 P w) C "refuse_clash" 3 ["self","number","thing"] (zeu C CC))
  (zcd:Fn P w K mg base "seal" 13 ["thing"] zeR) (c_R:Cls K R) (c_C:Cls K C) (nl:zR K R "laid") (nk:zR K R "keeper"):Mt P w K mg base (CX1 P w) R "lay" 14 ["self","thing"] (znB R C CC):=by
 refine D.okX (k:=13) zew (λvs H Q E h=>?_) (λf cdv A outer s H vs Q E hr h=>?_)
 ·obtain⟨a,dl,kp,dn,dk,kvs,nvs,kvk,t,v,rfl,_⟩:=h;rfl
 obtain⟨a,dl,kp,dn,dk,kvs,nvs,kvk,t,v,rfl,ro,vo,lo,lk,hl,rt,gt,q,qe⟩:=h;have gd:=gt.dp;have gn:=gt.nd;refine⟨_,(zb (zq (i:=2) zew.nd rfl (Or.inl rfl) (zF zcd hr (by omega) (by rfl) (za (pv 1) zc)))
 (zb (zaU (zb5 (pv 0) c_R zkf hr (by omega) zK (za (pv 2) (za (pv 1) zc))))
 (zb (zaU (zb5 (zaY (pv 0) (by rfl)) c_C zkg hr (by omega) zK (za (pv 2) (za (pv 1) zc))))
 (zb (zhP (zck hr) (zaY (pv 0) (by rfl)) (pv 2) (pv 1) (by rfl))
 (zd (zm (pv 2))))))),?_⟩
 refine⟨_,rfl,t,v,rfl,rt,gt.wf,by omega,by omega,λH1 s1=>?_⟩;have ro1:=ro.keep s1;have vo1:=vo.keep s1;obtain⟨⟨dx,eo⟩,ed,en⟩:=id ro1;obtain⟨⟨dy,fs,ek,fl⟩,ed2⟩:=id vo1;have rt1:=rt.keep (Same.tups s1);have back:∀kvs',Alike H1 kvs' t->zcL H kvs'->Alike H kvs' t:=λkvs' al lo' t1 v1 ev r1=>al t1 v1 ev (r1.keep (Same.tups s1));refine⟨_,rfl,a,dx,_,rfl,eo,(zfu dl kp dn).n1,_,rfl,_,rfl,a,dl,kvs,_,t,v,rfl,ro1.vok,lo.keep (Same.tups s1),rt1,gt,rfl,λsame=>?_,λt1 v1 ev r1 g1 sn ne=>qe t1 v1 H1 s1 (.inl ev) r1 g1 sn ne⟩;refine⟨_,rfl,a,R,dx,_,_,rfl,eo,c_R,nk,rfl,kp,dy,_,rfl,ek,fl.n1,_,rfl,_,rfl,kp,dk,kvk,_,t,v,rfl,vo1,lk.keep (Same.tups s1),rt1,gt,rfl,λsame2=>?_,λt1 v1 ev r1 g1 sn ne=>qe t1 v1 H1 s1 (.inr ⟨back kvs same lo,ev⟩) r1 g1 sn ne⟩;refine⟨_,rfl,_,rfl,a,R,dx,_,_,rfl,eo,c_R,nl,rfl,_,rfl,dl,_,rfl,DPut.k (k:=Sum.inl (zE t)) ed (Nat.lt_of_le_of_lt hl (by decide+kernel)),?_⟩;exact⟨_,rfl,q H1 s1 (back kvs same lo) (back kvk same2 lk)⟩
theorem zlz (D:Mdf K R "thing" "Reader.thing" zbv ["self","number"]) (zbH:Mt P w K mg base (CX1 P w) C "thing" 1 ["self","number"] (zf8 C CN)) (c_R:Cls K R) (c_C:Cls K C) (nl:zR K R "laid") (nk:zR K R "keeper") (nn:zR K R "noted"):
  Mt P w K mg base (CX1 P w) R "thing" 2 ["self","number"] (zi7 R C CN):=by
 refine D.okX (k:=1) zda (λvs H Q E h=>?_) (λf cdv A outer s H vs Q E hr h=>?_)
 ·obtain⟨a,dl,kp,dn,dk,kvs,nvs,kvk,n,rfl,_⟩:=h;rfl
 obtain⟨a,dl,kp,dn,dk,kvs,nvs,kvk,n,rfl,ro,vo,hl,q1,q2,qe⟩:=h;obtain⟨⟨dx,eo⟩,ed,en⟩:=id ro;obtain⟨⟨dy,fs,ek,fl⟩,ed2⟩:=id vo;refine⟨_,(zb (zL (zhU (znU (zck hr) (pv 1) (zaY (pv 0) (by rfl))))
 (zd (zm (zds (zck hr) (zaY (pv 0) (by rfl)) (pv 1) (λ_ _=>rfl))))
 zu)
 (zb (zq (i:=2) zda.nd rfl (Or.inl rfl) (zb5 (zaY (pv 0) (by rfl)) c_C zbH hr (by omega) zK (za (pv 1) zc)))
 (zb (zhP (zck hr) (zaY (pv 0) (by rfl)) (pv 1) (pv 2) (by rfl))
 (zd (zm (pv 2)))))),?_⟩
 refine⟨_,rfl,_,rfl,a,R,dx,_,_,rfl,eo,c_R,nl,rfl,dl,_,rfl,DGet.k (k:=Sum.inl n) ed,_,rfl,?_⟩;cases ev:valV kvs (Sum.inl n) with
 | some v=>
  have dg:DGet H dl (.int n) (some v):=by rw[<-ev];exact DGet.k (k:=Sum.inl n) ed
  refine ifT rfl ?_;exact⟨_,rfl,a,R,dx,_,_,rfl,eo,c_R,nl,rfl,_,rfl,dl,v,rfl,dg,q1 v ev⟩
 | none=>refine ifF rfl ?_;refine⟨_,rfl,a,R,dx,_,_,rfl,eo,c_R,nk,rfl,kp,dy,_,rfl,ek,fl.n3,_,rfl,kp,dk,kvk,n,rfl,vo,λv e=>?_,λe=>qe ev e⟩;refine⟨_,rfl,_,rfl,a,R,dx,_,_,rfl,eo,c_R,nn,rfl,_,rfl,dn,_,rfl,DPut.k (k:=Sum.inl n) en (Nat.lt_of_le_of_lt hl (by decide+kernel)),?_⟩;exact⟨_,rfl,q2 v ev e⟩
theorem zn6 (D:Mdf K R "paper" "Reader.paper" zbw ["self"]) (zgY:Fn P w K mg base "rising" 1 ["laid"] zgy) (c:Cls K R) (nn:zR K R "noted"):Mt P w K mg base CX0 R "paper" 2 ["self"] (zhR R):=by
 refine D.ok (k:=1) zgR (λvs H Q E h=>?_) (λf cdv A outer s H vs Q E hr h=>?_)
 ·obtain⟨a,dl,kp,dn,kvs,nvs,cs,rfl,_⟩:=h;rfl
 obtain⟨a,dl,kp,dn,kvs,nvs,cs,rfl,⟨⟨dx,eo⟩,ed,en⟩,dr,h64,q⟩:=h;exact⟨_,(zd (zm (zF zgY hr (by omega) (by rfl) (za (zaY (pv 0) (by rfl)) zc)))),_,rfl,a,R,dx,_,_,rfl,eo,c,nn,rfl,dn,nvs,cs,rfl,en,dr,h64,q⟩
end
end Pv
namespace Pv
open PySem L2
theorem Mt.mono {P:Program}{w:World}{K:QA}{mg:QB}{base:Heap}{CX:CXT}{C:Addr}{m:Str}{j k:Nat}{ps:QP}{sp:Sp}(F:Mt P w K mg base CX C m j ps sp)(h:j<=k):Mt P w K mg base CX C m k ps sp:=by obtain⟨f,fd,a,b⟩:=F.ex;exact⟨f,fd,a.mono h,b⟩
theorem NL.tups {H H':Hp}(n:NL H H'):Tups H H':=λb xs e=>n b _ (by intro ys z;cases z) e
theorem VOk.nl {H H':Hp}{C a d:Addr}{kvs:QG}(v:VOk H C a d kvs)(n:NL H H'):VOk H' C a d kvs:=by obtain⟨⟨dx,fs,e,f⟩,e2⟩:=v;exact⟨⟨dx,fs,n _ _ (by intro ys z;cases z) e,f⟩,n _ _ (by intro ys z;cases z) e2⟩
theorem VS.nl {H H':Hp}{C a d:Addr}{cs:QF}(v:VS H C a d cs)(n:NL H H'):VS H' C a d cs:=by obtain⟨kv,vo,dr⟩:=v.vo;exact⟨⟨kv,vo.nl n,dr.keep n.tups⟩,v.gc⟩
theorem zdu {a b:QF}{n:Int}:zD (a++b) n=(zD a n).or (zD b n):=by
 induction a with
 | nil=>rfl
 | cons p r ih=>
  obtain⟨k,u⟩:=p;rw[List.cons_append,zas,zas];by_cases h:k=n
  ·rw[if_pos h,if_pos h];rfl
  ·rw[if_neg h,if_neg h];exact ih
theorem Vst.all_own {s:Vst}{n:Int}{t:Th}(h:zD s.own n=some t):zD s.all n=some t:=by unfold Vst.all;rw[zdu,h];rfl
theorem Vst.all_kp {s:Vst}{n:Int}(h:zD s.own n=none):zD s.all n=zD s.kp n:=by unfold Vst.all;rw[zdu,h];rfl
theorem zlA {s:Vst}{t:Th}(h:s.stop t=none):zD s.all (zE t)=none\/zD s.all (zE t)=some t:=by
 unfold Vst.stop at h;cases z:zD s.all (zE t) with
 | none=>exact .inl rfl
 | some u=>
  rw[z] at h;have h':(if u=t then none else some u)=(none:Option Th):=h;by_cases e:u=t
  ·rw[e];exact .inr rfl
  ·rw[if_neg e] at h';cases h'
theorem zkD {s:Vst}{t:Th}(h:zD s.all (zE t)=none\/zD s.all (zE t)=some t):s.stop t=none:=by
 unfold Vst.stop;rcases h with h | h
 ·rw[h]
 ·rw[h];exact if_pos rfl
theorem ze5 {s:Vst}{t u:Th}(h:zD s.all (zE t)=some u)(n:u≠t):s.stop t=some u:=by unfold Vst.stop;rw[h];exact if_neg n
structure VK (C:Addr)(H:Hp)(a:Addr)(D:QO)(s:Vst):Prop where
 vs:∃d,D=[d]/\VS H C a d s.own
 kp:s.kp=[]
 rm:s.own.length+s.n<=1000000
theorem vi_K (C:Addr):VI C (VK C) where
 ins:=λv=>by obtain⟨d,_,vs⟩:=v.vs;obtain⟨kv,⟨⟨dx,fs,e,f⟩,_⟩,_⟩:=vs.vo;exact⟨dx,fs,e,f.n3,f.n2⟩
 dic:=λv b hb=>by obtain⟨d,e,vs⟩:=v.vs;obtain⟨kv,vo,_⟩:=vs.vo;subst e;rw[Jq.mp hb];exact⟨kv,vo.di⟩
 nl:=λv n=>by obtain⟨d,e,vs⟩:=v.vs;exact⟨⟨d,e,vs.nl n⟩,v.kp,v.rm⟩
structure VRd (R C kp dk:Addr)(H:Hp)(a:Addr)(D:QO)(s:Vst):Prop where
 ro:∃dl dn kvs nvs,D=[dl,dn]/\ROk H R a dl kp dn kvs nvs/\DRep H s.own kvs/\DRep H s.nt nvs/\dl≠dn/\dk≠dl/\dk≠dn
 vs:VS H C kp dk s.kp
 g1:GoodC s.own
 g2:GoodC s.nt
 co:∀n t u,zD s.own n=some t->zD s.kp n=some u->t=u
 su:∀n t,zD s.nt n=some t->zD s.kp n=some t
 r1:s.own.length+s.n<=1000000
 r2:s.nt.length+s.n<=1000000
theorem ROk.nl {H H':Hp}{R a dl kp dn:Addr}{kvs nvs:QG}(v:ROk H R a dl kp dn kvs nvs)(n:NL H H'):ROk H' R a dl kp dn kvs nvs:=by obtain⟨⟨dx,e⟩,e2,e3⟩:=v;exact⟨⟨dx,n _ _ (by intro ys z;cases z) e⟩,n _ _ (by intro ys z;cases z) e2,n _ _ (by intro ys z;cases z) e3⟩
theorem vi_R (R C kp dk:Addr):VI R (VRd R C kp dk) where
 ins:=λv=>by obtain⟨dl,dn,kvs,nvs,_,ro,_⟩:=v.ro;obtain⟨⟨dx,e⟩,_⟩:=ro;exact⟨dx,_,e,(zfu dl kp dn).n3,(zfu dl kp dn).n2⟩
 dic:=λv b hb=>by
  obtain⟨dl,dn,kvs,nvs,e,ro,_⟩:=v.ro;subst e;simp only[List.mem_cons,List.not_mem_nil,or_false] at hb;rcases hb with rfl | rfl
  ·exact⟨_,ro.di⟩
  ·exact⟨_,ro.no⟩
 nl:=λv n=>by obtain⟨dl,dn,kvs,nvs,e,ro,d1,d2,ne⟩:=v.ro;exact⟨⟨dl,dn,kvs,nvs,e,ro.nl n,d1.keep n.tups,d2.keep n.tups,ne⟩,v.vs.nl n,v.g1,v.g2,v.co,v.su,v.r1,v.r2⟩
theorem Vst.look_own {s:Vst}{n:Int}{t:Th}(h:zD s.own n=some t):s.look n=some (t,{s with n:=s.n - 1}):=by unfold Vst.look;rw[h]
theorem Vst.look_kp {s:Vst}{n:Int}{t:Th}(h:zD s.own n=none)(k:zD s.kp n=some t):s.look n=some (t,{s with nt:=addT s.nt n t,n:=s.n - 1}):=by unfold Vst.look;rw[h];show(match zD s.kp n with | some t=>_ | none=>_)=_;rw[k]
theorem Vst.look_no {s:Vst}{n:Int}(h:zD s.own n=none)(k:zD s.kp n=none):s.look n=none:=by unfold Vst.look;rw[h];show(match zD s.kp n with | some t=>_ | none=>_)=_;rw[k]
section
variable {P:Program}{w:World}{K:QA}{mg:QB}{base:Heap}{R C CC CN kp dk:Addr}{x:Str}
theorem zoH (M:Mt P w K mg base (CX1 P w) C "thing" 1 ["self","number"] (zf8 C CN)):Mt P w K mg base (CX1 P w) C "thing" 2 ["self","number"] (zci (VK C) CN):=Mt.mono (Mt.imp M λvs H Q E h=>by
 obtain⟨a,D,s,n,rfl,vk,h0,q,qe⟩:=h;obtain⟨d,rfl,vs⟩:=id vk.vs;obtain⟨kv,vo,dr⟩:=vs.vo;refine⟨a,d,kv,n,rfl,vo,λv ev=>?_,λev=>?_⟩
 ·obtain⟨t,e1,rv⟩:=dr.back ev;exact q t _ v H (Vst.look_own e1) Frm.refl ⟨⟨d,rfl,vs⟩,vk.kp,by have:=vk.rm;show s.own.length+(s.n - 1)<=1000000;omega⟩ rv (vs.gc.dep e1).1
 ·refine qe H (Vst.look_no ?_ (by rw[vk.kp];rfl)) Frm.refl vk;cases z:zD s.own n with
  | none=>rfl
  | some t=>obtain⟨y,ey,_⟩:=dr.some z;rw[ev] at ey;cases ey) (by decide)
theorem zq8 (M:Mt P w K mg base (CX1 P w) C "lay" 14 ["self","thing"] (zpR C CC)):Mt P w K mg base (CX1 P w) C "lay" 14 ["self","thing"] (zcH (VK C) CC):=Mt.imp M λvs H Q E h=>by
 obtain⟨a,D,s,t,v,rfl,vk,h0,rt,gt,q,qe⟩:=h;obtain⟨d,rfl,vs⟩:=id vk.vs;obtain⟨kv,vo,dr⟩:=vs.vo;have rm:=vk.rm;have eall:∀n,zD s.all n=zD s.own n:=λn=>by unfold Vst.all;rw[vk.kp,List.append_nil]
 refine⟨a,d,kv,t,v,rfl,vo,dr.laidOk vs.gc.gd,by rw[dr.len];omega,rt,gt,λH' sm alike=>?_,λt1 v1 H' sm e1 r1 g1 se ne H2 x s2 ex=>?_⟩
 ·have ft:Fits s.own (zE t) t:=by
   cases z:zD s.own (zE t) with
   | none=>exact .inl z
   | some u=>obtain⟨y,ey,ry⟩:=dr.some z;rw[alike u y ey ry] at z;exact .inr z
  have ed':=sm _ _ vo.di;have tk:Tups H (upd H' d (.dK (putK kv (.inl (zE t)) v))):=(Same.tups sm).trans (Tups.upd λxs z=>by rw[ed'] at z;cases z);have fr:Frm [d] H (upd H' d (.dK (putK kv (.inl (zE t)) v))):=λb o n e=>by rw[zl (λz=>n (by rw[z];exact Jq.mpr rfl))];exact sm b o e
  obtain⟨⟨dx,fs,eo,fl⟩,ed⟩:=id vo;have hal:=zgm s.own (zE t) t;have had:a∉ [d]:=λz=>zbz eo ed (by intro y;cases y) (Jq.mp z);exact q _ (zkD (by rw[eall];exact ft)) fr ⟨⟨d,rfl,⟨⟨_,⟨⟨dx,fs,fr _ _ had eo,fl⟩,zj⟩,(dr.keep tk).add (rt.keep tk) ft vs.gc.nd⟩,vs.gc.add gt rfl⟩⟩,vk.kp,by show(addT s.own (zE t) t).length+(s.n - 1)<=1000000;omega⟩
 ·obtain⟨t2,e2,r2⟩:=dr.back e1;have e12:t2=t1:=(r2.keep (Same.tups sm)).uniq r1;subst e12;exact qe t2 x v1 v H2 (ze5 (by rw[eall];exact e2) ne) (Frm.of λb o z=>s2 b o (sm b o z)) ((vi_K C).same vk λb o z=>s2 b o (sm b o z)) (r1.keep (Same.tups s2)) (rt.keep ((Same.tups sm).trans (Same.tups s2))) g1 gt ne se ex
theorem zo2 (M:Mt P w K mg base (CX1 P w) R "thing" 2 ["self","number"] (zi7 R C CN)):Mt P w K mg base (CX1 P w) R "thing" 2 ["self","number"] (zci (VRd R C kp dk) CN):=Mt.imp M λvs H Q E h=>by
 obtain⟨a,D,s,n,rfl,vr,h0,q,qe⟩:=h;obtain⟨dl,dn,kvs,nvs,rfl,ro,d1,d2,ne,nk1,nk2⟩:=id vr.ro;obtain⟨kv,vo,dr⟩:=vr.vs.vo;have r1:=vr.r1;have r2:=vr.r2;have non:∀{cs:QF} {kvs:QG},DRep H cs kvs->valV kvs (Sum.inl n)=none->zD cs n=none:=λd ev=>by
  rename_i cs _;cases z:zD cs n with
  | none=>rfl
  | some t=>obtain⟨y,ey,_⟩:=d.some z;rw[ev] at ey;cases ey
 refine⟨a,dl,kp,dn,dk,kvs,nvs,kv,n,rfl,ro,vo,by rw[d2.len];omega,λv ev=>?_,λv e0 ev=>?_,λe0 ev=>?_⟩
 ·obtain⟨t,e1,rv⟩:=d1.back ev;exact q t _ v H (Vst.look_own e1) Frm.refl ⟨vr.ro,vr.vs,vr.g1,vr.g2,vr.co,vr.su,by show s.own.length+(s.n - 1)<=1000000;omega,by show s.nt.length+(s.n - 1)<=1000000;omega⟩ rv (vr.g1.dep e1).1
 ·obtain⟨t,e1,rv⟩:=dr.back ev;have ft:Fits s.nt n t:=by
   cases z:zD s.nt n with
   | none=>exact .inl z
   | some u=>have:=vr.su n u z;rw[e1] at this;cases this;exact .inr z
  have en:=ro.no;have tk:Tups H (upd H dn (.dK (putK nvs (.inl n) v))):=Tups.upd λxs z=>by rw[en] at z;cases z
  have fr:Frm [dl,dn] H (upd H dn (.dK (putK nvs (.inl n) v))):=Frm.upd (by simp);obtain⟨gt,sn⟩:=vr.vs.gc.dep e1;have hal:=zgm s.nt n t;obtain⟨⟨dx,eo⟩,ed,_⟩:=id ro;obtain⟨⟨dy,fs,eok,flk⟩,edk⟩:=id vo;refine q t _ v _ (Vst.look_kp (non d1 e0) e1) fr ⟨⟨dl,dn,kvs,_,rfl,⟨⟨dx,?_⟩,?_,zj⟩,d1.keep tk,(d2.keep tk).add (rv.keep tk) ft vr.g2.nd,ne,nk1,nk2⟩,⟨⟨kv,⟨⟨dy,fs,?_,flk⟩,?_⟩,dr.keep tk⟩,vr.vs.gc⟩,vr.g1,vr.g2.add gt sn,vr.co,λm u z=>?_,by show s.own.length+(s.n - 1)<=1000000;omega,by show(addT s.nt n t).length+(s.n - 1)<=1000000;omega⟩ (rv.keep tk) gt
  ·rw[zl (zbz eo en (by intro z;cases z))];exact eo
  ·rw[zl ne];exact ed
  ·rw[zl (zbz eok en (by intro z;cases z))];exact eok
  ·rw[zl nk2];exact edk
  ·rcases zcB z with z | ⟨rfl,rfl⟩
   ·exact vr.su m u z
   ·exact e1
 ·exact qe H (Vst.look_no (non d1 e0) (non dr ev)) Frm.refl vr
theorem zrh (M:Mt P w K mg base (CX1 P w) R "lay" 14 ["self","thing"] (znB R C CC)):Mt P w K mg base (CX1 P w) R "lay" 14 ["self","thing"] (zcH (VRd R C kp dk) CC):=Mt.imp M λvs H Q E h=>by
 obtain⟨a,D,s,t,v,rfl,vr,h0,rt,gt,q,qe⟩:=h;obtain⟨dl,dn,kvs,nvs,rfl,ro,d1,d2,ne,nk1,nk2⟩:=id vr.ro;obtain⟨kv,vo,dr⟩:=vr.vs.vo;have r1:=vr.r1;have r2:=vr.r2;have fits:∀{cs:QF} {kvs:QG},DRep H cs kvs->Alike H kvs t->Fits cs (zE t) t:=λd al=>by
  rename_i cs _;cases z:zD cs (zE t) with
  | none=>exact .inl z
  | some u=>obtain⟨y,ey,ry⟩:=d.some z;rw[al u y ey ry] at z;exact .inr z
 refine⟨a,dl,kp,dn,dk,kvs,nvs,kv,t,v,rfl,ro,vo,d1.laidOk vr.g1.gd,dr.laidOk vr.vs.gc.gd,by rw[d1.len];omega,rt,gt,λH' sm al1 al2=>?_,λt1 v1 H' sm e1 r1' g1 se nt H2 x s2 ex=>?_⟩
 ·have f1:=fits d1 al1;have f2:=fits dr al2;have ed':=sm _ _ ro.di;have tk:Tups H (upd H' dl (.dK (putK kvs (.inl (zE t)) v))):=(Same.tups sm).trans (Tups.upd λxs z=>by rw[ed'] at z;cases z);have fr:Frm [dl,dn] H (upd H' dl (.dK (putK kvs (.inl (zE t)) v))):=λb o n e=>by rw[zl (λz=>n (by rw[z];simp))];exact sm b o e
  obtain⟨⟨dx,eo⟩,ed,en⟩:=id ro;obtain⟨⟨dy,fs,eok,flk⟩,edk⟩:=id vo;have hal:=zgm s.own (zE t) t;refine q _ (zkD ?_) fr ⟨⟨dl,dn,_,nvs,rfl,⟨⟨dx,?_⟩,zj,?_⟩,(d1.keep tk).add (rt.keep tk) f1 vr.g1.nd,d2.keep tk,ne,nk1,nk2⟩,⟨⟨kv,⟨⟨dy,fs,?_,flk⟩,?_⟩,dr.keep tk⟩,vr.vs.gc⟩,vr.g1.add gt rfl,vr.g2,λm u u' z z'=>?_,vr.su,by show(addT s.own (zE t) t).length+(s.n - 1)<=1000000;omega,by show s.nt.length+(s.n - 1)<=1000000;omega⟩
  ·rcases f1 with f1 | f1
   ·rw[Vst.all_kp f1];exact f2
   ·rw[Vst.all_own f1];exact .inr rfl
  ·rw[zl (zbz eo ed (by intro z;cases z))];exact sm _ _ eo
  ·rw[zl (Ne.symm ne)];exact sm _ _ en
  ·rw[zl (zbz eok ed (by intro z;cases z))];exact sm _ _ eok
  ·rw[zl nk1];exact sm _ _ edk
  ·have z':zD s.kp m=some u':=z';rcases zcB z with z | ⟨rfl,rfl⟩
   ·exact vr.co m u u' z z'
   ·rcases f2 with f2 | f2
    ·rw[f2] at z';cases z'
    ·rw[f2] at z';cases z';rfl
 ·have st:s.stop t=some t1:=by
   rcases e1 with e1 | ⟨al,e1⟩
   ·obtain⟨t2,e2,r2'⟩:=d1.back e1;have e12:t2=t1:=(r2'.keep (Same.tups sm)).uniq r1';subst e12;exact ze5 (Vst.all_own e2) nt
   ·obtain⟨t2,e2,r2'⟩:=dr.back e1;have e12:t2=t1:=(r2'.keep (Same.tups sm)).uniq r1';subst e12;rcases fits d1 al with f1 | f1
    ·exact ze5 (by rw[Vst.all_kp f1];exact e2) nt
    ·have:=vr.co _ _ _ f1 e2;exact Ji this.symm nt
  exact qe t1 x v1 v H2 st (Frm.of λb o z=>s2 b o (sm b o z)) ((vi_R R C kp dk).same vr λb o z=>s2 b o (sm b o z)) (r1'.keep (Same.tups s2)) (rt.keep ((Same.tups sm).trans (Same.tups s2))) g1 gt nt se ex
end
end Pv
namespace Pv
open PySem L2
open Tr
def Abv:Tr->Prop
 | nil=>True
 | node l k _ r=>(∀p∈l.ps,zaF k p.1=true)/\(∀p∈r.ps,zaF k p.1=true)/\Abv l/\Abv r
noncomputable def Tr.joinT:Tr->Tr->Tr
 | nil,R=>R
 | node l k w r,nil=>node l k w r
 | node l k w r,node l' k' w' r'=>if zaF k k'=true then node l k w (joinT r (node l' k' w' r')) else node (joinT (node l k w r) l') k' w' r'
 termination_by L R=>sizeOf L+sizeOf R
theorem zma (L:Tr):joinT L nil=L:=by
 cases L with
 | nil=>rw[joinT]
 | node l k w r=>rw[joinT]
theorem zie:∀(L R:Tr),(joinT L R).ps=L.ps++R.ps
 | nil,R=>by rw[joinT];rfl
 | node l k w r,nil=>by rw[joinT];exact(List.append_nil _).symm
 | node l k w r,node l' k' w' r'=>by
  rw[joinT];by_cases c:zaF k k'=true
  ·rw[if_pos c];show l.ps++(k,w)::(joinT r (node l' k' w' r')).ps=(l.ps++(k,w)::r.ps)++_;rw[zie r (node l' k' w' r')];simp
  ·rw[if_neg c];show(joinT (node l k w r) l').ps++(k',w')::r'.ps=_++(l'.ps++(k',w')::r'.ps);rw[zie (node l k w r) l'];simp
 termination_by L R=>sizeOf L+sizeOf R
noncomputable def Tr.cutT (x:Th)(T:Tr):Tr:=
 match own x T with
 | nil=>T
 | node l _ _ r=>plug x (wl x T - 1) T (joinT l r)
end Pv
namespace Pv
open PySem L2
open Tr
theorem zdb {x:Th}:∀{n:Nat} {T:Tr},(down x n T).cnt<=T.cnt
 | 0,_=>Jb _
 | n+1,nil=>zdb (n:=n) (T:=nil)
 | n+1,node l k w r=>by
  have h:=zdb (x:=x) (n:=n) (T:=if zf k x=true then r else l);show(down x n (if zf k x=true then r else l)).cnt<=_;rw[zJ];by_cases c:zf k x=true
  ·rw[if_pos c] at h ⊢;omega
  ·rw[if_neg c] at h ⊢;omega
theorem zfF {x:Th}:∀{n:Nat} {T:Tr},(∀m,m < n->down x m T≠nil)->(spl x n T).1.cnt+(spl x n T).2.cnt=T.cnt
 | 0,T,_=>rfl
 | n+1,nil,h=>Ji rfl (h 0 (JF _))
 | n+1,node l k w r,h=>by
  have h':∀m,m < n->down x m (if zf k x=true then r else l)≠nil:=λm hm=>h (m+1) (JA hm);show(if zf k x=true then(node l k w (spl x n r).1,(spl x n r).2) else((spl x n l).1,node (spl x n l).2 k w r)).1.cnt+(if zf k x=true then(node l k w (spl x n r).1,(spl x n r).2) else((spl x n l).1,node (spl x n l).2 k w r)).2.cnt=_;by_cases c:zf k x=true
  ·rw[if_pos c] at h' ⊢;have:=zfF h';show(node l k w (spl x n r).1).cnt+(spl x n r).2.cnt=_;rw[zJ,zJ];omega
  ·rw[if_neg c] at h' ⊢;have:=zfF h';show(spl x n l).1.cnt+(node (spl x n l).2 k w r).cnt=_;rw[zJ,zJ];omega
structure Go (A:Th->Prop)(j:Nat)(s s':Vst):Prop where
 kp:s'.kp=s.kp
 al:Sub s.all s'.all
 nt:∀n t,zD s'.nt n=some t->zD s.nt n=some t\/A t
 n:s.n<=s'.n+j
theorem Go.refl {A:Th->Prop}(s:Vst):Go A 0 s s:=⟨rfl,Sub.refl _,λ_ _ h=>.inl h,Jb _⟩
theorem Go.trans {A:Th->Prop}{i j:Nat}{s s' s'':Vst}(g:Go A i s s')(g':Go A j s' s''):Go A (i+j) s s'':=
 ⟨g'.kp.trans g.kp,g.al.trans g'.al,λn t h=>by
  rcases g'.nt n t h with h | h
  ·exact g.nt n t h
  ·exact .inr h,by have:=g.n;have:=g'.n;omega⟩
theorem Go.mono {A:Th->Prop}{i j:Nat}{s s':Vst}(g:Go A i s s')(h:i<=j):Go A j s s':=⟨g.kp,g.al,g.nt,by have:=g.n;omega⟩
theorem zmV {s:Vst}{n:Int}{t:Th}{A:Th->Prop}(h:zD s.all n=some t)(hA:A t)(h0:0 < s.n):∃s',s.look n=some (t,s')/\Go A 1 s s'/\s'.own=s.own:=by
 cases z:zD s.own n with
 | some u=>rw[Vst.all_own z] at h;cases h;exact⟨_,Vst.look_own z,⟨rfl,Sub.refl _,λ_ _ h=>.inl h,by show s.n<=s.n - 1+1;omega⟩,rfl⟩
 | none=>
  rw[Vst.all_kp z] at h;refine⟨_,Vst.look_kp z h,⟨rfl,Sub.refl _,λm u y=>?_,by show s.n<=s.n - 1+1;omega⟩,rfl⟩;rcases zcB y with y | ⟨_,rfl⟩
  ·exact .inl y
  ·exact .inr hA
noncomputable def ndT (l:Tr)(k w:Th)(r:Tr):Nd:=⟨k,w,l.root,r.root,(((l.ps++(k,w)::r.ps).length:Nat):Int)⟩
theorem zqv {l r:Tr}{k w:Th}{m:Int}(kw:KeyT k/\KeyT w)(c3:(node l k w r).cnt<=300)(hm:((node l k w r).cnt:Int) < m):benK m (node l k w r).thing=.ret (ndT l k w r):=by have ok:=(zbt kw.1 kw.2 c3).1;have e:ndOf (node l k w r).thing=some (ndT l k w r):=zkX (nd:=ndT l k w r) (zp9 (nd:=ndT l k w r) ok);rw[zeZ e,if_pos (show(ndT l k w r).c < m from hm)]
theorem zd4 {A:Th->Prop}{l r:Tr}{k w:Th}{m:Int}{s:Vst}{q:Nd->Vst->Prop}{e:Er->Vst->Prop}(tk:TOk s.all (node l k w r))(hm:((node l k w r).cnt:Int) < m)(h0:0 < s.n)(hA:A (node l k w r).thing)(h:∀s',Go A 1 s s'->s'.own=s.own->q (ndT l k w r) s'):(benP (node l k w r).root m).wp s q e:=by
 obtain⟨s',e1,g,eo⟩:=zmV tk.iv.1 hA h0;refine⟨h0,λt s2 z=>?_,λz=>?_⟩
 ·rw[e1] at z;cases z;rw[zqv tk.kw tk.ct hm];exact h _ g eo
 ·rw[e1] at z;cases z
noncomputable def wayN (x:Th):Tr->List Nd
 | nil=>[]
 | node l k w r=>ndT l k w r::(if k=x then[] else if zf k x=true then wayN x r else wayN x l)
theorem zkF {x:Th}{l r:Tr}{k w:Th}(h:k≠x):wayN x (node l k w r)=ndT l k w r::wayN x ((node l k w r).kid x):=by
 show ndT l k w r::(if k=x then[] else if zf k x=true then wayN x r else wayN x l)=ndT l k w r::wayN x (if zf k x=true then r else l);rw[if_neg h];by_cases c:zf k x=true
 ·rw[if_pos c,if_pos c]
 ·rw[if_neg c,if_neg c]
theorem zhN {x:Th}{l r:Tr}{k w:Th}:((node l k w r).kid x).cnt+1<=(node l k w r).cnt:=by have:=zJ l k w r;show(if zf k x=true then r else l).cnt+1<=_;split <;> omega
theorem znu {x:Th}{l r:Tr}{k w:Th}:kidI (ndT l k w r) x=((node l k w r).kid x).root:=by show(if zf k x=true then r.root else l.root)=(if zf k x=true then r else l).root;split <;> rfl
theorem TOk.go {A:Th->Prop}{j:Nat}{s s':Vst}{T:Tr}(t:TOk s.all T)(g:Go A j s s'):TOk s'.all T:=t.mono g.al
theorem zgu {A:Th->Prop}{x:Th}{e:Er->Vst->Prop}:∀{T:Tr} {f:Nat} {m:Int} {s:Vst} {q:List Nd->Vst->Prop},TOk s.all T->T.cnt < f->(T.cnt:Int) < m->T.cnt<=s.n->(∀nd∈wayN x T,A nd.th)->(∀s',Go A T.cnt s s'->s'.own=s.own->q (wayN x T) s')->(wayP x f T.root m).wp s q e
 | T,0,_,_,_,_,h,_,_,_,_=>Ji h (Nat.not_lt_zero _)
 | nil,f+1,m,s,q,_,_,_,_,_,h=>by unfold wayP;rw[if_pos (show(Tr.nil).root=0 from rfl)];exact h s (Go.refl s) rfl
 | node l k w r,f+1,m,s,q,tk,hf,hm,hn,hA,h=>by
  have kc:=zhN (x:=x) (l:=l) (r:=r) (k:=k) (w:=w);unfold wayP;rw[if_neg (λz=>by cases zaV.mp z),Pg.wp_bind];refine zd4 (A:=A) tk hm (by omega) (hA _ List.mem_cons_self) λs1 g1 o1=>?_;by_cases ek:k=x
  ·rw[if_pos (show(ndT l k w r).k=x from ek)];have e1:wayN x (node l k w r)=[ndT l k w r]:=by show _::(if k=x then[] else _)=_;rw[if_pos ek]
   rw[e1] at h;exact h s1 (g1.mono (by omega)) o1
  ·rw[if_neg (show¬(ndT l k w r).k=x from ek),Pg.wp_bind,znu];rw[zkF ek] at hA h;have gn:=g1.n;refine zgu (T:=(node l k w r).kid x) (tk.go g1).kid (by omega) (by show _ < (((l.ps++(k,w)::r.ps).length:Nat):Int);have:(l.ps++(k,w)::r.ps).length=(node l k w r).cnt:=rfl;omega) (by omega) (λnd hnd=>hA nd (Jl _ hnd)) λs2 g2 o2=>?_;exact h s2 ((g1.trans g2).mono (by omega)) (o2.trans o1)
termination_by T f _ _ _ _ _ _ _ _ _=>f
theorem zoG {s:Vst}{t:Th}(h:s.stop t=none):Sub s.all (s.add t).all/\zD (s.add t).all (zE t)=some t:=by
 have h':=zlA h;have key:zD (s.add t).all (zE t)=some t:=by
  show zD (addT s.own (zE t) t++s.kp) (zE t)=some t;rw[zdu];cases z:zD s.own (zE t) with
  | none=>rw[zfl (.inl z)];rfl
  | some u=>
   rw[Vst.all_own z] at h';rcases h' with h' | h'
   ·cases h'
   ·cases h';rw[zfl (.inr z)];rfl
 refine⟨λn u e=>?_,key⟩;show zD (addT s.own (zE t) t++s.kp) n=some u;rw[zdu];cases z:zD s.own n with
 | some v=>rw[Vst.all_own z] at e;cases e;rw[zlJ z];rfl
 | none=>
  rw[Vst.all_kp z] at e;cases y:zD (addT s.own (zE t) t) n with
  | none=>exact e
  | some v=>
   rcases zcB y with y | ⟨rfl,rfl⟩
   ·rw[z] at y;cases y
   ·rw[Vst.all_kp z,e] at h';rcases h' with h' | h'
    ·cases h'
    ·exact h'.symm
theorem zb6 {A:Th->Prop}{α:Type}{t:Th}{k:Pg α}{s:Vst}{q:α->Vst->Prop}{e:Er->Vst->Prop}(h0:0 < s.n)(g:Good t)(hc:∀u t s',e (.clash u t) s')(h:∀s',Go A 1 s s'->zD s'.all (zE t)=some t->k.wp s' q e):(Pg.lay t k).wp s q e:=by refine⟨h0,g,λz=>?_,λu _=>hc u t s⟩;obtain⟨a,b⟩:=zoG z;exact h _ ⟨rfl,a,λ_ _ h=>.inl h,by show s.n<=s.n - 1+1;omega⟩ b
noncomputable def wayT (x:Th):Nat->Tr->List Nd
 | 0,_=>[]
 | _+1,nil=>[]
 | n+1,node l k w r=>ndT l k w r::wayT x n ((node l k w r).kid x)
theorem zcv {x:Th}:∀{T:Tr},wayN x T=wayT x (wl x T) T
 | nil=>rfl
 | node l k w r=>by
  by_cases ek:k=x
  ·have e1:wl x (node l k w r)=1:=by show(if k=x then 1 else _)=1;rw[if_pos ek]
   rw[e1];show _::(if k=x then[] else _)=_;rw[if_pos ek];rfl
  ·have e1:wl x (node l k w r)=wl x ((node l k w r).kid x)+1:=by show(if k=x then 1 else(if zf k x=true then r.wl x else l.wl x)+1)=wl x (if zf k x=true then r else l)+1;rw[if_neg ek];split <;> rfl
   rw[e1,zkF ek];show _=ndT l k w r::wayT x (wl x ((node l k w r).kid x)) ((node l k w r).kid x);congr 1;show wayN x (if zf k x=true then r else l)=wayT x (wl x (if zf k x=true then r else l)) (if zf k x=true then r else l);by_cases c:zf k x=true
   ·rw[if_pos c];exact zcv
   ·rw[if_neg c];exact zcv
theorem zhw {x:Th}:∀{m n:Nat} {T:Tr},m<=n->(wayT x n T).take m=wayT x m T
 | 0,_,_,_=>by rw[List.take_zero];rfl
 | m+1,0,_,h=>Ji h (Nat.not_succ_le_zero m)
 | m+1,n+1,nil,_=>rfl
 | m+1,n+1,node l k w r,h=>congrArg (ndT l k w r:: ·) (zhw (Nat.le_of_succ_le_succ h))
theorem zhj {x:Th}:∀{m n:Nat} {T:Tr},m<=n->(wayT x n T).drop m=wayT x (n - m) (down x m T)
 | 0,n,_,_=>rfl
 | m+1,0,_,h=>Ji h (Nat.not_succ_le_zero m)
 | m+1,n+1,nil,h=>by
  have e:wayT x (n+1) nil=[]:=rfl;rw[e,List.drop_nil];have:∀(j i:Nat),wayT x i (down x j nil)=[]:=λj=>by
   induction j with
   | zero=>intro i;cases i <;> rfl
   | succ j ih=>exact ih
  exact(this (m+1) _).symm
 | m+1,n+1,node l k w r,h=>by show(wayT x n ((node l k w r).kid x)).drop m=wayT x (n+1 - (m+1)) (down x m ((node l k w r).kid x));rw[zhj (Nat.le_of_succ_le_succ h),Nat.succ_sub_succ]
theorem zhx {x:Th}{more:Int}:∀{a b:List Nd} {n:Int},zbE x more (a++b) n=(zbE x more a n).bind (zbE x more b)
 | [],_,_=>rfl
 | nd::a,b,n=>by show Pg.lay _ (zbE x more (a++b) _)=Pg.lay _ ((zbE x more a _).bind _);rw[zhx]
theorem zfS {A:Th->Prop}{x:Th}{e:Er->Vst->Prop}(hc:∀u t s',e (.clash u t) s'){more:Int}:∀{n:Nat} {T S:Tr} {s:Vst} {q:Int->Vst->Prop},TOk s.all T->S.InV s.all->(∀m,m < n->down x m T≠nil)->T.cnt+S.cnt<=300+(down x n T).cnt->more=(S.cnt:Int) - ((down x n T).cnt:Int)->n<=s.n->
  (∀s',Go A n s s'->(plug x n T S).InV s'.all->q (plug x n T S).root s')->(zbE x more (wayT x n T).reverse S.root).wp s q e
 | 0,T,S,s,q,_,iS,_,_,_,_,h=>h s (Go.refl s) iS
 | n+1,nil,_,_,_,_,_,nn,_,_,_,_=>Ji rfl (nn 0 (JF _))
 | n+1,node l k w r,S,s,q,tk,iS,nn,h3,hm,hn,h=>by
  have kc:=zhN (x:=x) (l:=l) (r:=r) (k:=k) (w:=w);show(zbE x more (ndT l k w r::wayT x n ((node l k w r).kid x)).reverse S.root).wp s q e;have hd:down x (n+1) (node l k w r)=down x n ((node l k w r).kid x):=rfl;rw[hd] at h3 hm;rw[List.reverse_cons,zhx,Pg.wp_bind];refine zfS (A:=A) hc (n:=n) (T:=(node l k w r).kid x) tk.kid iS (λm hm=>nn (m+1) (JA hm)) (by omega) hm (by omega) λs1 g1 i1=>?_;have pc:=zgx (x:=x) (n:=n) (T:=(node l k w r).kid x) (S:=S) (λm hm=>nn (m+1) (JA hm));have tk1:=tk.go g1;have gn:=g1.n;have cn:=zJ l k w r;generalize hP:plug x n ((node l k w r).kid x) S=Pj at pc i1;have hnew:plug x (n+1) (node l k w r) S=if zf k x=true then node l k w Pj else node Pj k w r:=by
   show(if zf k x=true then node l k w (plug x n r S) else node (plug x n l S) k w r)=_;by_cases c:zf k x=true
   ·have e1:(node l k w r).kid x=r:=if_pos c;rw[e1] at hP;rw[if_pos c,if_pos c,hP]
   ·have e1:(node l k w r).kid x=l:=if_neg c;rw[e1] at hP;rw[if_neg c,if_neg c,hP]
  rw[hnew] at h;have hlen:(l.ps++(k,w)::r.ps).length=(node l k w r).cnt:=rfl;by_cases c:zf k x=true
  ·rw[if_pos c] at h;have e1:(node l k w r).kid x=r:=if_pos c;rw[e1] at pc h3 hm;have cn2:=zJ l k w Pj;have et:(zaB (ndT l k w r) (zcW (ndT l k w r).k x) Pj.root ((ndT l k w r).c+more)).th=(node l k w Pj).thing:=by have e3:zcW (ndT l k w r).k x=3:=if_pos c;rw[e3];show zbx k w l.root Pj.root ((((l.ps++(k,w)::r.ps).length:Nat):Int)+more)=zbx k w l.root Pj.root (((l.ps++(k,w)::Pj.ps).length:Nat):Int);have:(l.ps++(k,w)::Pj.ps).length=(node l k w Pj).cnt:=rfl;rw[show(((l.ps++(k,w)::r.ps).length:Nat):Int)+more=(((l.ps++(k,w)::Pj.ps).length:Nat):Int) by omega]
   show(Pg.lay _ (Pg.ret _)).wp s1 q e;rw[et];refine zb6 (A:=A) (by omega) (zbt tk.kw.1 tk.kw.2 (by omega)).2 hc λs2 g2 e2=>?_;exact h s2 ((g1.trans g2).mono (Jb _)) ⟨e2,(tk1.go g2).l.iv,InV.mono g2.al i1⟩
  ·rw[if_neg c] at h;have e1:(node l k w r).kid x=l:=if_neg c;rw[e1] at pc h3 hm;have cn2:=zJ Pj k w r;have et:(zaB (ndT l k w r) (zcW (ndT l k w r).k x) Pj.root ((ndT l k w r).c+more)).th=(node Pj k w r).thing:=by have e3:zcW (ndT l k w r).k x=2:=if_neg c;rw[e3];show zbx k w Pj.root r.root ((((l.ps++(k,w)::r.ps).length:Nat):Int)+more)=zbx k w Pj.root r.root (((Pj.ps++(k,w)::r.ps).length:Nat):Int);have:(Pj.ps++(k,w)::r.ps).length=(node Pj k w r).cnt:=rfl;rw[show(((l.ps++(k,w)::r.ps).length:Nat):Int)+more=(((Pj.ps++(k,w)::r.ps).length:Nat):Int) by omega]
   show(Pg.lay _ (Pg.ret _)).wp s1 q e;rw[et];refine zb6 (A:=A) (by omega) (zbt tk.kw.1 tk.kw.2 (by omega)).2 hc λs2 g2 e2=>?_;exact h s2 ((g1.trans g2).mono (Jb _)) ⟨e2,InV.mono g2.al i1,(tk1.go g2).r.iv⟩
noncomputable def zcl (x:Th):List Nd->Int->Int->Int->Int->Pg (Int ×Int ×Int ×Int)
 | [],l,lc,r,rc=>.ret (l,lc,r,rc)
 | nd::t,l,lc,r,rc=>if zf nd.k x=true then .lay (zaB nd 3 l (nd.c - rc)).th (zcl x t (zE (zaB nd 3 l (nd.c - rc)).th) (nd.c - rc) r rc)
  else .lay (zaB nd 2 r (nd.c - lc)).th (zcl x t l lc (zE (zaB nd 2 r (nd.c - lc)).th) (nd.c - lc))
theorem zgw {x:Th}:∀{a:List Nd} {l lc r rc:Int},zfq x a l lc r rc=(zcl x a l lc r rc).bind λy=>.ret (y.1,y.2.2.1)
 | [],_,_,_,_=>rfl
 | nd::a,l,lc,r,rc=>by
  unfold zfq zcl;split
  ·show Pg.lay _ _=Pg.lay _ _;rw[zgw]
  ·show Pg.lay _ _=Pg.lay _ _;rw[zgw]
theorem zjp {x:Th}{nd:Nd}{a:List Nd}{l lc r rc:Int}(h:zf nd.k x=true):zcl x (nd::a) l lc r rc=.lay (zaB nd 3 l (nd.c - rc)).th (zcl x a (zE (zaB nd 3 l (nd.c - rc)).th) (nd.c - rc) r rc):=if_pos h
theorem ziM {x:Th}{nd:Nd}{a:List Nd}{l lc r rc:Int}(h:¬zf nd.k x=true):zcl x (nd::a) l lc r rc=.lay (zaB nd 2 r (nd.c - lc)).th (zcl x a l lc (zE (zaB nd 2 r (nd.c - lc)).th) (nd.c - lc)):=if_neg h
theorem zeY {x:Th}:∀{a b:List Nd} {l lc r rc:Int},zcl x (a++b) l lc r rc=(zcl x a l lc r rc).bind λy=>zcl x b y.1 y.2.1 y.2.2.1 y.2.2.2
 | [],_,_,_,_,_=>rfl
 | nd::a,b,l,lc,r,rc=>by
  by_cases c:zf nd.k x=true
  ·rw[List.cons_append,zjp c,zjp c,zeY];rfl
  ·rw[List.cons_append,ziM c,ziM c,zeY];rfl
theorem zk8 {A:Th->Prop}{x:Th}{e:Er->Vst->Prop}(hc:∀u t s',e (.clash u t) s'):∀{n:Nat} {T:Tr} {s:Vst} {q:Int ×Int ×Int ×Int->Vst->Prop},TOk s.all T->(∀m,m < n->down x m T≠nil)->n<=s.n->
  (∀s',Go A n s s'->(spl x n T).1.InV s'.all->(spl x n T).2.InV s'.all->q ((spl x n T).1.root,((spl x n T).1.cnt:Int),(spl x n T).2.root,((spl x n T).2.cnt:Int)) s')->(zcl x (wayT x n T).reverse (down x n T).root ((down x n T).cnt:Int) 0 0).wp s q e
 | 0,T,s,q,tk,_,_,h=>h s (Go.refl s) tk.iv trivial
 | n+1,nil,_,_,_,nn,_,_=>Ji rfl (nn 0 (JF _))
 | n+1,node l k w r,s,q,tk,nn,hn,h=>by
  have hd:down x (n+1) (node l k w r)=down x n ((node l k w r).kid x):=rfl;rw[hd];show(zcl x (ndT l k w r::wayT x n ((node l k w r).kid x)).reverse _ _ 0 0).wp s q e;rw[List.reverse_cons,zeY,Pg.wp_bind];have sc:=zfF (x:=x) (n:=n) (T:=(node l k w r).kid x) (λm hm=>nn (m+1) (JA hm));refine zk8 (A:=A) hc (n:=n) (T:=(node l k w r).kid x) tk.kid (λm hm=>nn (m+1) (JA hm)) (by omega) λs1 g1 i1 i2=>?_;have tk1:=tk.go g1;have gn:=g1.n;have cn:=zJ l k w r;have ct:=tk.ct;have hlen:(l.ps++(k,w)::r.ps).length=(node l k w r).cnt:=rfl;have hnew:spl x (n+1) (node l k w r)=if zf k x=true then(node l k w (spl x n ((node l k w r).kid x)).1,(spl x n ((node l k w r).kid x)).2) else((spl x n ((node l k w r).kid x)).1,node (spl x n ((node l k w r).kid x)).2 k w r):=by
   show(if zf k x=true then(node l k w (spl x n r).1,(spl x n r).2) else((spl x n l).1,node (spl x n l).2 k w r))=_;by_cases c:zf k x=true
   ·have e1:(node l k w r).kid x=r:=if_pos c;rw[e1,if_pos c,if_pos c]
   ·have e1:(node l k w r).kid x=l:=if_neg c;rw[e1,if_neg c,if_neg c]
  rw[hnew] at h;generalize(spl x n ((node l k w r).kid x)).1=L at sc i1 h ⊢;generalize(spl x n ((node l k w r).kid x)).2=R at sc i2 h ⊢;show(if zf k x=true then Pg.lay (zaB (ndT l k w r) 3 L.root ((ndT l k w r).c - (R.cnt:Int))).th (Pg.ret (_,_,R.root,(R.cnt:Int))) else Pg.lay (zaB (ndT l k w r) 2 R.root ((ndT l k w r).c - (L.cnt:Int))).th (Pg.ret (L.root,(L.cnt:Int),_,_))).wp s1 q e;by_cases c:zf k x=true
  ·rw[if_pos c] at h ⊢;have e1:(node l k w r).kid x=r:=if_pos c;rw[e1] at sc;have cn2:=zJ l k w L;have hl2:(l.ps++(k,w)::L.ps).length=(node l k w L).cnt:=rfl;have ec:(ndT l k w r).c - (R.cnt:Int)=((node l k w L).cnt:Int):=by show(((l.ps++(k,w)::r.ps).length:Nat):Int) - _=_;omega
   rw[ec];have et:(zaB (ndT l k w r) 3 L.root ((node l k w L).cnt:Int)).th=(node l k w L).thing:=rfl;rw[et];refine zb6 (A:=A) (by omega) (zbt tk.kw.1 tk.kw.2 (by omega)).2 hc λs2 g2 e2=>?_;exact h s2 (g1.trans g2) ⟨e2,(tk1.go g2).l.iv,InV.mono g2.al i1⟩ (InV.mono g2.al i2)
  ·rw[if_neg c] at h ⊢;have e1:(node l k w r).kid x=l:=if_neg c;rw[e1] at sc;have cn2:=zJ R k w r;have hl2:(R.ps++(k,w)::r.ps).length=(node R k w r).cnt:=rfl;have ec:(ndT l k w r).c - (L.cnt:Int)=((node R k w r).cnt:Int):=by show(((l.ps++(k,w)::r.ps).length:Nat):Int) - _=_;omega
   rw[ec];have et:(zaB (ndT l k w r) 2 R.root ((node R k w r).cnt:Int)).th=(node R k w r).thing:=rfl;rw[et];refine zb6 (A:=A) (by omega) (zbt tk.kw.1 tk.kw.2 (by omega)).2 hc λs2 g2 e2=>?_;exact h s2 (g1.trans g2) (InV.mono g2.al i1) ⟨e2,InV.mono g2.al i2,(tk1.go g2).r.iv⟩
end Pv
namespace Pv
open PySem L2
open Tr
theorem ze3 {x:Th}:∀{n:Nat} {T l r:Tr} {k w:Th},down x n T=node l k w r->(∀m,m < n->down x m T≠nil)->wayT x (n+1) T=wayT x n T++ [ndT l k w r]
 | 0,node l' k' w' r',l,r,k,w,e,_=>by cases e;rfl
 | 0,nil,_,_,_,_,e,_=>by cases e
 | n+1,nil,_,_,_,_,_,h=>Ji rfl (h 0 (JF _))
 | n+1,node l' k' w' r',l,r,k,w,e,h=>congrArg (ndT l' k' w' r':: ·) (ze3 (n:=n) (T:=(node l' k' w' r').kid x) e λm hm=>h (m+1) (JA hm))
theorem zex {x:Th}:∀{T:Tr},own x T=nil->∀nd∈wayN x T,nd.k≠x
 | nil,_,nd,h=>by cases h
 | node l k w r,h,nd,hn=>by
  unfold own at h;by_cases e:k=x
  ·rw[if_pos e] at h;cases h
  ·rw[if_neg e] at h;have hn':nd∈ndT l k w r::(if k=x then[] else if zf k x=true then wayN x r else wayN x l):=hn;rw[if_neg e] at hn';rcases List.mem_cons.mp hn' with rfl | hn'
   ·exact e
   ·by_cases c:zf k x=true
    ·rw[if_pos c] at h hn';exact zex h nd hn'
    ·rw[if_neg c] at h hn';exact zex h nd hn'
theorem zeW {x:Th}:∀{T:Tr},own x T=nil->za6 x (wayN x T)=plc x T
 | nil,_=>rfl
 | node l k w r,h=>by
  unfold own at h;by_cases e:k=x
  ·rw[if_pos e] at h;cases h
  ·rw[if_neg e] at h;show(if zaF x k=true then 0 else za6 x (if k=x then[] else if zf k x=true then wayN x r else wayN x l)+1)=(if zaF x k=true then 0 else(if zf k x=true then r.plc x else l.plc x)+1);rw[if_neg e];by_cases c:zf k x=true
   ·rw[if_pos c] at h;rw[if_pos c,if_pos c,zeW h]
   ·rw[if_neg c] at h;rw[if_neg c,if_neg c,zeW h]
theorem zm5 {x:Th}:∀{n i:Nat} {T:Tr},i<=n->(∀m,m < n->down x m T≠nil)->down x n T=nil->zen (wayT x n T) i=((down x i T).cnt:Int)
 | 0,0,T,_,_,e=>by have e':T=nil:=e;subst e';rfl
 | 0,i+1,_,h,_,_=>Ji h (Nat.not_succ_le_zero i)
 | n+1,_,nil,_,h,_=>Ji rfl (h 0 (JF _))
 | n+1,0,node l k w r,_,_,_=>rfl
 | n+1,i+1,node l k w r,hi,h,e=>zm5 (n:=n) (i:=i) (T:=(node l k w r).kid x) (Nat.le_of_succ_le_succ hi) (λm hm=>h (m+1) (JA hm)) e
theorem zmK {A:Th->Prop}{x wo:Th}{e:Er->Vst->Prop}(hc:∀u t s',e (.clash u t) s'){T:Tr}{s:Vst}{q:Int->Vst->Prop}(tk:TOk s.all T)(c9:T.cnt<=299)(kx:KeyT x)(kw:KeyT wo)(hn:1000<=s.n)(hA:∀nd∈wayN x T,A nd.th)(h:∀s',Go A 1000 s s'->(putT x wo T).InV s'.all->q (putT x wo T).root s'):(putP T.root x wo).wp s q e:=by
 unfold putP;rw[Pg.wp_bind];refine zgu (A:=A) tk (by omega) (by omega) (by omega) hA λs1 g1 _=>?_;have tk1:=tk.go g1;have gn:=g1.n;have hwl:=zkS (x:=x) T;cases z:own x T with
 | node l k w r=>
  obtain⟨rfl,n,ewl,up,ed⟩:=zco z;have ew:wayN k T=wayT k n T++ [ndT l k w r]:=by rw[zcv,ewl,ze3 ed (up_down up)]
  have ek:zeg k wo (wayN k T)=putO k wo (wayN k T) (ndT l k w r):=by unfold zeg;rw[ew,List.getLast?_concat];exact if_pos rfl
  rw[ek];unfold putO;rw[ew,List.dropLast_concat];have hlen:(l.ps++(k,w)::r.ps).length=(l.ps++(k,wo)::r.ps).length:=by simp
  have et:(Nd.mk k wo (ndT l k w r).l (ndT l k w r).r (ndT l k w r).c).th=(node l k wo r).thing:=by show zbx k wo l.root r.root (((l.ps++(k,w)::r.ps).length:Nat):Int)=zbx k wo l.root r.root (((l.ps++(k,wo)::r.ps).length:Nat):Int);rw[hlen]
  rw[et];have hcn:(node l k wo r).cnt=(node l k w r).cnt:=by rw[zJ,zJ]
  have hdc:(node l k w r).cnt<=T.cnt:=by rw[<-ed];exact zdb
  have td:=tk1.down (x:=k) (n:=n);rw[ed] at td;refine zb6 (A:=A) (by omega) (zbt kx kw (by omega)).2 hc λs2 g2 e2=>?_;have gn2:=g2.n;have ep:putT k wo T=plug k n T (node l k wo r):=by unfold putT;rw[z,ewl,Nat.add_sub_cancel]
  rw[ep] at h;exact zfS (A:=A) hc (S:=node l k wo r) (tk1.go g2) ⟨e2,(td.go g2).l.iv,(td.go g2).r.iv⟩ (up_down up) (by rw[ed,hcn];omega) (by rw[ed,hcn];omega) (by omega) λs3 g3 i3=>h s3 ((g1.trans (g2.trans g3)).mono (by omega)) i3
 | nil=>
  obtain⟨up,dn⟩:=zd8 z;have hpl:=zid z;have ek:zeg x wo (wayN x T)=putN x wo (wayN x T):=by
   unfold zeg;cases y:(wayN x T).getLast? with
   | none=>rfl
   | some nd=>exact if_neg (zex z nd (List.mem_of_getLast? y))
  rw[ek];unfold putN;rw[zeW z,zgw];generalize hp:plc x T=pl at hpl;have hdn:down x (wl x T - pl) (down x pl T)=nil:=by rw[<-zgH,show pl+(wl x T - pl)=wl x T by omega];exact dn
  have hnn:∀m,m < wl x T - pl->down x m (down x pl T)≠nil:=λm hm=>by rw[<-zgH];exact up_down up _ (by omega)
  have ecn:zen (wayN x T) pl=((down x pl T).cnt:Int):=by rw[zcv];exact zm5 hpl (up_down up) dn
  rw[ecn,zcv,zhj hpl,zhw hpl,Pg.wp_bind,Pg.wp_bind];have hdc:(down x pl T).cnt<=T.cnt:=zdb;have hsc:=zfF hnn;have key:=zk8 (A:=A) (x:=x) (e:=e) hc (n:=wl x T - pl) (T:=down x pl T) (s:=s1) (q:=λy s'=>(Pg.ret (y.1,y.2.2.1)).wp s' (λlr s'=>(Pg.lay (Nd.mk x wo lr.1 lr.2 (((down x pl T).cnt:Int)+1)).th (zbE x 1 (wayT x pl T).reverse (zE (Nd.mk x wo lr.1 lr.2 (((down x pl T).cnt:Int)+1)).th))).wp s' q e) e) tk1.down hnn (by omega);rw[hdn] at key;refine key λs2 g2 i1 i2=>?_;clear key;have gn2:=g2.n;have hpq:putT x wo T=plug x pl T (node (spl x (wl x T - pl) (down x pl T)).1 x wo (spl x (wl x T - pl) (down x pl T)).2):=by unfold putT;rw[z,hp]
  rw[hpq] at h;generalize(spl x (wl x T - pl) (down x pl T)).1=L at i1 hsc h ⊢;generalize(spl x (wl x T - pl) (down x pl T)).2=R at i2 hsc h ⊢;have hcn:=zJ L x wo R;have et:(Nd.mk x wo L.root R.root (((down x pl T).cnt:Int)+1)).th=(node L x wo R).thing:=by show zbx x wo L.root R.root (((down x pl T).cnt:Int)+1)=zbx x wo L.root R.root (((L.ps++(x,wo)::R.ps).length:Nat):Int);have:(L.ps++(x,wo)::R.ps).length=(node L x wo R).cnt:=rfl;rw[show((down x pl T).cnt:Int)+1=(((L.ps++(x,wo)::R.ps).length:Nat):Int) by omega]
  show(Pg.lay (Nd.mk x wo L.root R.root (((down x pl T).cnt:Int)+1)).th (zbE x 1 (wayT x pl T).reverse (zE (Nd.mk x wo L.root R.root (((down x pl T).cnt:Int)+1)).th))).wp s2 q e;rw[et];refine zb6 (A:=A) (by omega) (zbt kx kw (by omega)).2 hc λs3 g3 e3=>?_;have gn3:=g3.n;exact zfS (A:=A) hc (S:=node L x wo R) ((tk1.go g2).go g3) ⟨e3,InV.mono g3.al i1,InV.mono g3.al i2⟩ (up_down (zh5 up hpl)) (by omega) (by omega) (by omega) λs4 g4 i4=>h s4 ((g1.trans (g2.trans (g3.trans g4))).mono (by omega)) i4
noncomputable def zhv:Tr->List Nd
 | nil=>[]
 | node l k w r=>ndT l k w r::zhv r
noncomputable def ziD:Tr->List Nd
 | nil=>[]
 | node l k w r=>ndT l k w r::ziD l
theorem zhH:∀{a b:List Js} {n:Int},upP (a++b) n=(upP a n).bind (upP b)
 | [],_,_=>rfl
 | j::a,b,n=>by show Pg.lay _ (upP (a++b) _)=Pg.lay _ ((upP a _).bind _);rw[zhH]
theorem zgn (L R:Tr):(joinT L R).cnt=L.cnt+R.cnt:=by unfold Tr.cnt;rw[zie,List.length_append]
theorem zig {A:Th->Prop}{e:Er->Vst->Prop}(hc:∀u t s',e (.clash u t) s'){f:Nat}:∀{L R:Tr} {lc rc:Int} {s:Vst} {q:Int->Vst->Prop},TOk s.all L->TOk s.all R->(L.cnt:Int) < lc->(R.cnt:Int) < rc->L.cnt+R.cnt<=300->L.cnt+R.cnt < f->3 * (L.cnt+R.cnt)<=s.n->(∀nd∈zhv L,A nd.th)->(∀nd∈ziD R,A nd.th)->
  (∀s',Go A (3 * (L.cnt+R.cnt)) s s'->(joinT L R).InV s'.all->q (joinT L R).root s')->(joinR f L.root lc R.root rc).wp s (λy s'=>(upP y.1.reverse y.2).wp s' q e) e:=by
 induction f with
 | zero=>intro L R _ _ _ _ _ _ _ _ _ h;exact Ji h (Nat.not_lt_zero _)
 | succ f ih=>
  intro L R lc rc s q tl tr hl hr h3 hf hn hA hB h;cases L with
  | nil=>
   unfold joinR;rw[if_pos (show(Tr.nil).root=0 from rfl)];have ej:joinT nil R=R:=by rw[joinT]
   rw[ej] at h;exact h s ((Go.refl s).mono (Nat.zero_le _)) tr.iv
  | node l k w r=>cases R with
   | nil=>unfold joinR;rw[if_neg (λz=>by cases zaV.mp z),if_pos (show(Tr.nil).root=0 from rfl)];rw[zma] at h;exact h s ((Go.refl s).mono (Nat.zero_le _)) tl.iv
   | node l' k' w' r'=>
    have c1:=zJ l k w r;have c2:=zJ l' k' w' r';unfold joinR;rw[if_neg (λz=>by cases zaV.mp z),if_neg (λz=>by cases zaV.mp z),Pg.wp_bind];refine zd4 (A:=A) tl hl (by omega) (hA _ List.mem_cons_self) λs1 g1 _=>?_;have n1:=g1.n;rw[Pg.wp_bind];refine zd4 (A:=A) (tr.go g1) hr (by omega) (hB _ List.mem_cons_self) λs2 g2 _=>?_;have n2:=g2.n;have g12:=g1.trans g2;have tl2:=tl.go g12;have tr2:=tr.go g12;have hb:(ndT l k w r).c+(ndT l' k' w' r').c=(((node l k w r).cnt+(node l' k' w' r').cnt:Nat):Int):=by show(((l.ps++(k,w)::r.ps).length:Nat):Int)+(((l'.ps++(k',w')::r'.ps).length:Nat):Int)=_;have:(l.ps++(k,w)::r.ps).length=(node l k w r).cnt:=rfl;have:(l'.ps++(k',w')::r'.ps).length=(node l' k' w' r').cnt:=rfl;omega
    by_cases c:zaF k k'=true
    ·rw[if_pos (show zaF (ndT l k w r).k (ndT l' k' w' r').k=true from c),Pg.wp_bind];have ej:joinT (node l k w r) (node l' k' w' r')=node l k w (joinT r (node l' k' w' r')):=by rw[joinT,if_pos c]
     rw[ej] at h;have jc:=zgn r (node l' k' w' r');have cn:=zJ l k w (joinT r (node l' k' w' r'));have key:=ih (L:=r) (R:=node l' k' w' r') (lc:=(ndT l k w r).c) (rc:=rc) (s:=s2) (q:=λn s'=>(upP [⟨ndT l k w r,3,(ndT l k w r).c+(ndT l' k' w' r').c⟩] n).wp s' q e) tl2.r tr2
      (by show(r.cnt:Int) < (((l.ps++(k,w)::r.ps).length:Nat):Int);have:(l.ps++(k,w)::r.ps).length=(node l k w r).cnt:=rfl;omega) hr (by omega) (by omega) (by omega) (λnd hd=>hA nd (Jl _ hd)) hB
     refine Pg.wp_mono (λy s' z=>?_) (λ_ _ z=>z) (key λs3 g3 i3=>?_)
     ·show(upP (_::y.1).reverse y.2).wp s' q e;rw[List.reverse_cons,zhH,Pg.wp_bind];exact z
     ·have n3:=g3.n;show(Pg.lay (zaB (ndT l k w r) 3 (joinT r (node l' k' w' r')).root ((ndT l k w r).c+(ndT l' k' w' r').c)).th (Pg.ret _)).wp s3 q e;have et:(zaB (ndT l k w r) 3 (joinT r (node l' k' w' r')).root ((ndT l k w r).c+(ndT l' k' w' r').c)).th=(node l k w (joinT r (node l' k' w' r'))).thing:=by
       rw[hb];show zbx k w l.root _ (((node l k w r).cnt+(node l' k' w' r').cnt:Nat):Int)=zbx k w l.root _ (((l.ps++(k,w)::(joinT r (node l' k' w' r')).ps).length:Nat):Int);have:(l.ps++(k,w)::(joinT r (node l' k' w' r')).ps).length=(node l k w (joinT r (node l' k' w' r'))).cnt:=rfl;rw[show(node l k w r).cnt+(node l' k' w' r').cnt=(l.ps++(k,w)::(joinT r (node l' k' w' r')).ps).length by omega]
       rfl
      rw[et];refine zb6 (A:=A) (by omega) (zbt tl.kw.1 tl.kw.2 (by omega)).2 hc λs4 g4 e4=>?_;exact h s4 ((g12.trans (g3.trans g4)).mono (by omega)) ⟨e4,((tl2.go g3).go g4).l.iv,InV.mono g4.al i3⟩
    ·rw[if_neg (show¬zaF (ndT l k w r).k (ndT l' k' w' r').k=true from c),Pg.wp_bind];have ej:joinT (node l k w r) (node l' k' w' r')=node (joinT (node l k w r) l') k' w' r':=by rw[joinT,if_neg c]
     rw[ej] at h;have jc:=zgn (node l k w r) l';have cn:=zJ (joinT (node l k w r) l') k' w' r';have key:=ih (L:=node l k w r) (R:=l') (lc:=lc) (rc:=(ndT l' k' w' r').c) (s:=s2) (q:=λn s'=>(upP [⟨ndT l' k' w' r',2,(ndT l k w r).c+(ndT l' k' w' r').c⟩] n).wp s' q e) tl2 tr2.l hl
      (by show(l'.cnt:Int) < (((l'.ps++(k',w')::r'.ps).length:Nat):Int);have:(l'.ps++(k',w')::r'.ps).length=(node l' k' w' r').cnt:=rfl;omega) (by omega) (by omega) (by omega) hA (λnd hd=>hB nd (Jl _ hd))
     refine Pg.wp_mono (λy s' z=>?_) (λ_ _ z=>z) (key λs3 g3 i3=>?_)
     ·show(upP (_::y.1).reverse y.2).wp s' q e;rw[List.reverse_cons,zhH,Pg.wp_bind];exact z
     ·have n3:=g3.n;show(Pg.lay (zaB (ndT l' k' w' r') 2 (joinT (node l k w r) l').root ((ndT l k w r).c+(ndT l' k' w' r').c)).th (Pg.ret _)).wp s3 q e;have et:(zaB (ndT l' k' w' r') 2 (joinT (node l k w r) l').root ((ndT l k w r).c+(ndT l' k' w' r').c)).th=(node (joinT (node l k w r) l') k' w' r').thing:=by
       rw[hb];show zbx k' w' _ r'.root (((node l k w r).cnt+(node l' k' w' r').cnt:Nat):Int)=zbx k' w' _ r'.root ((((joinT (node l k w r) l').ps++(k',w')::r'.ps).length:Nat):Int);have:((joinT (node l k w r) l').ps++(k',w')::r'.ps).length=(node (joinT (node l k w r) l') k' w' r').cnt:=rfl;rw[show(node l k w r).cnt+(node l' k' w' r').cnt=((joinT (node l k w r) l').ps++(k',w')::r'.ps).length by omega]
       rfl
      rw[et];refine zb6 (A:=A) (by omega) (zbt tr.kw.1 tr.kw.2 (by omega)).2 hc λs4 g4 e4=>?_;exact h s4 ((g12.trans (g3.trans g4)).mono (by omega)) ⟨e4,InV.mono g4.al i3,((tr2.go g3).go g4).r.iv⟩
noncomputable def gapN (x:Th)(T:Tr):List Nd:=match own x T with
 | nil=>[]
 | node l _ _ r=>zhv l++ziD r
theorem zqC {A:Th->Prop}{x:Th}{e:Er->Vst->Prop}(hc:∀u t s',e (.clash u t) s'){T:Tr}{s:Vst}{q:Int->Vst->Prop}(tk:TOk s.all T)(hn:3000<=s.n)(hA:∀nd∈wayN x T,A nd.th)(hB:∀nd∈gapN x T,A nd.th)(h:∀s',Go A 3000 s s'->(cutT x T).InV s'.all->q (cutT x T).root s'):(cutP T.root x).wp s q e:=by
 have ct:=tk.ct;unfold cutP;rw[Pg.wp_bind];refine zgu (A:=A) tk (by omega) (by omega) (by omega) hA λs1 g1 _=>?_;have tk1:=tk.go g1;have gn:=g1.n;have hwl:=zkS (x:=x) T;unfold gapN at hB;unfold cutK;cases z:own x T with
 | node l k w r=>
  rw[z] at hB;obtain⟨rfl,n,ewl,up,ed⟩:=zco z;have ew:wayN k T=wayT k n T++ [ndT l k w r]:=by rw[zcv,ewl,ze3 ed (up_down up)]
  rw[ew,List.getLast?_concat];have ep:cutT k T=plug k n T (joinT l r):=by unfold cutT;rw[z,ewl,Nat.add_sub_cancel]
  rw[ep] at h;have hdc:(node l k w r).cnt<=T.cnt:=by rw[<-ed];exact zdb
  have td:=tk1.down (x:=k) (n:=n);rw[ed] at td;have cn:=zJ l k w r;have jc:=zgn l r;have hlen:(l.ps++(k,w)::r.ps).length=(node l k w r).cnt:=rfl;show(if (ndT l k w r).k=k then _ else _:Pg Int).wp s1 q e;rw[if_pos (show(ndT l k w r).k=k from rfl),Pg.wp_bind];unfold zi2;rw[Pg.wp_bind,List.dropLast_concat];have dc:((ndT l k w r).c)=((node l k w r).cnt:Int):=rfl;rw[dc];refine zig (A:=A) hc (L:=l) (R:=r) td.l td.r (by omega) (by omega) (by omega) (by omega) (by omega) (λnd hd=>hB nd (Jk _ hd)) (λnd hd=>hB nd (Jf _ hd)) λs2 g2 i2=>?_;have gn2:=g2.n;exact zfS (A:=A) hc (S:=joinT l r) (tk1.go g2) i2 (up_down up) (by rw[ed];omega) (by rw[ed];omega) (by omega) λs3 g3 i3=>h s3 ((g1.trans (g2.trans g3)).mono (by omega)) i3
 | nil=>
  have ep:cutT x T=T:=by unfold cutT;rw[z]
  rw[ep] at h;cases y:(wayN x T).getLast? with
  | none=>exact h s1 (g1.mono (by omega)) tk1.iv
  | some nd=>show(if nd.k=x then _ else _:Pg Int).wp s1 q e;rw[if_neg (zex z nd (List.mem_of_getLast? y))];exact h s1 (g1.mono (by omega)) tk1.iv
noncomputable def topN:Tr->List Nd
 | nil=>[]
 | node l k w r=>[ndT l k w r]
theorem ziH {A:Th->Prop}{e:Er->Vst->Prop}{T:Tr}{m:Int}{s:Vst}{q:Int->Vst->Prop}(tk:TOk s.all T)(hm:(T.cnt:Int) < m)(h0:0 < s.n)(hA:∀nd∈topN T,A nd.th)(h:∀s',Go A 1 s s'->q (T.cnt:Int) s'):(zej T.root m).wp s q e:=by
 unfold zej;cases T with
 | nil=>rw[if_pos (show(Tr.nil).root=0 from rfl)];exact h s ((Go.refl s).mono (Nat.zero_le _))
 | node l k w r=>rw[if_neg (λz=>by cases zaV.mp z),Pg.wp_bind];exact zd4 (A:=A) tk hm h0 (hA _ List.mem_cons_self) λs1 g1 _=>h s1 g1
noncomputable def cntN (x:Th):Tr->List Nd
 | nil=>[]
 | node l k _ r=>if zf x k=true then cntN x l else topN l++(if k=x then[] else cntN x r)
theorem zir {A:Th->Prop}{x:Th}{e:Er->Vst->Prop}:∀{T:Tr} {m:Int} {s:Vst} {q:Int->Vst->Prop},TOk s.all T->T.cnt<=s.n->(∀nd∈cntN x T,A nd.th)->(∀s',Go A T.cnt s s'->q (m+(ca x T:Int)) s')->(cntL x (wayN x T) m).wp s q e
 | nil,m,s,q,_,_,_,h=>by have h':=h s (Go.refl s);have:m+((ca x nil:Nat):Int)=m:=Int.add_zero m;rw[this] at h';exact h'
 | node l k w r,m,s,q,tk,hn,hA,h=>by
  have cn:=zJ l k w r;have hA':∀nd∈(if zf x k=true then cntN x l else topN l++(if k=x then[] else cntN x r)),A nd.th:=hA;have ec:ca x (node l k w r)=if k=x then l.cnt else if zf k x=true then l.cnt+1+r.ca x else l.ca x:=rfl
  show(if zf x k=true then cntL x (if k=x then[] else if zf k x=true then wayN x r else wayN x l) m else(zej l.root (((l.ps++(k,w)::r.ps).length:Nat):Int)).bind λc=>cntL x (if k=x then[] else if zf k x=true then wayN x r else wayN x l) (m+c+(if k=x then 0 else 1))).wp s q e;by_cases c:zf x k=true
  ·have ne:k≠x:=λz=>by rw[z,zT] at c;cases c
   have c':¬zf k x=true:=λz=>by rw[zab c] at z;cases z
   rw[if_pos c] at hA' ⊢;rw[if_neg ne,if_neg c'] at ec ⊢;refine zir tk.l (by omega) hA' λs1 g1=>?_;have:=h s1 (g1.mono (by omega));rw[ec] at this;exact this
  ·rw[if_neg c] at hA' ⊢;rw[Pg.wp_bind];refine ziH (A:=A) tk.l (by have:(l.ps++(k,w)::r.ps).length=(node l k w r).cnt:=rfl;omega) (by omega) (λnd hd=>hA' nd (Jk _ hd)) λs1 g1=>?_;have n1:=g1.n;by_cases ne:k=x
   ·rw[if_pos ne] at ec;rw[if_pos ne,if_pos ne,Int.add_zero];have:=h s1 (g1.mono (by omega));rw[ec] at this;exact this
   ·have c':zf k x=true:=zby (by cases z:zf x k with | true=>exact Ji z c | false=>rfl) (λz=>ne z.symm);rw[if_neg ne,if_pos c'] at ec;rw[if_neg ne] at hA';rw[if_neg ne,if_neg ne,if_pos c'];refine zir (tk.go g1).r (by omega) (λnd hd=>hA' nd (Jf _ hd)) λs2 g2=>?_;have:=h s2 ((g1.trans g2).mono (by omega));rw[ec] at this;rw[show m+(l.cnt:Int)+1+((ca x r:Nat):Int)=m+((l.cnt+1+ca x r:Nat):Int) by omega];exact this
theorem znR {A:Th->Prop}{x:Th}{e:Er->Vst->Prop}{T:Tr}{s:Vst}{q:Int->Vst->Prop}(tk:TOk s.all T)(hn:1000<=s.n)(hA:∀nd∈wayN x T,A nd.th)(hB:∀nd∈cntN x T,A nd.th)(h:∀s',Go A 1000 s s'->q (ca x T:Int) s'):(cntP T.root x).wp s q e:=by have ct:=tk.ct;unfold cntP;rw[Pg.wp_bind];refine zgu (A:=A) tk (by omega) (by omega) (by omega) hA λs1 g1 _=>?_;have n1:=g1.n;refine zir (A:=A) (tk.go g1) (by omega) hB λs2 g2=>?_;have:=h s2 ((g1.trans g2).mono (by omega));rw[Int.zero_add];exact this
noncomputable def cntV (lo hi:Th)(T:Tr):Int:=if zcM lo hi=true then 0 else(ca hi T:Int) - (ca lo T:Int)
theorem zjH {A:Th->Prop}{lo hi:Th}{e:Er->Vst->Prop}{T:Tr}{s:Vst}{q:Int->Vst->Prop}(tk:TOk s.all T)(hn:3000<=s.n)(kl:lo≠ .non)(kh:hi≠ .non)(hA:∀nd∈wayN lo T++cntN lo T,A nd.th)(hB:∀nd∈wayN hi T++cntN hi T,A nd.th)(h:∀s',Go A 3000 s s'->q (cntV lo hi T) s'):(zcq T.root lo hi).wp s q e:=by
 unfold zcq;unfold cntV at h;by_cases z:zcM lo hi=true
 ·rw[if_pos z] at h ⊢;exact h s ((Go.refl s).mono (Nat.zero_le _))
 ·rw[if_neg z] at h ⊢;rw[if_neg kh,Pg.wp_bind];refine znR (A:=A) tk (by omega) (λnd hd=>hB nd (Jk _ hd)) (λnd hd=>hB nd (Jf _ hd)) λs1 g1=>?_;have n1:=g1.n;unfold zhS;rw[if_neg kl,Pg.wp_bind];refine znR (A:=A) (tk.go g1) (by omega) (λnd hd=>hA nd (Jk _ hd)) (λnd hd=>hA nd (Jf _ hd)) λs2 g2=>?_;exact h s2 ((g1.trans g2).mono (by omega))
noncomputable def nthV:Tr->Int->Th
 | nil,_=>.non
 | node l k w r,i=>if ((node l k w r).cnt:Int)<=i then .non else if i=(l.cnt:Int) then zgV (k,w) else if i < (l.cnt:Int) then nthV l i else nthV r (i - (l.cnt:Int) - 1)
noncomputable def nthN:Tr->Int->List Nd
 | nil,_=>[]
 | node l k w r,i=>ndT l k w r::(if ((node l k w r).cnt:Int)<=i then[] else topN l++(if i=(l.cnt:Int) then[] else if i < (l.cnt:Int) then nthN l i else nthN r (i - (l.cnt:Int) - 1)))
theorem zh3 {A:Th->Prop}{e:Er->Vst->Prop}:∀{T:Tr} {f:Nat} {m i:Int} {s:Vst} {q:Th->Vst->Prop},TOk s.all T->T.cnt < f->(T.cnt:Int) < m->2 * T.cnt<=s.n->(∀nd∈nthN T i,A nd.th)->(∀s',Go A (2 * T.cnt) s s'->q (nthV T i) s')->(nthL f T.root m i).wp s q e
 | T,0,_,_,_,_,_,h,_,_,_,_=>Ji h (Nat.not_lt_zero _)
 | nil,f+1,m,i,s,q,_,_,_,_,_,h=>by unfold nthL;rw[if_pos (show(Tr.nil).root=0 from rfl)];exact h s (Go.refl s)
 | node l k w r,f+1,m,i,s,q,tk,hf,hm,hn,hA,h=>by
  have cn:=zJ l k w r;have hlen:(l.ps++(k,w)::r.ps).length=(node l k w r).cnt:=rfl;unfold nthL;unfold nthN at hA;unfold nthV at h;rw[if_neg (λz=>by cases zaV.mp z),Pg.wp_bind];refine zd4 (A:=A) tk hm (by omega) (hA _ List.mem_cons_self) λs1 g1 _=>?_;have n1:=g1.n;by_cases c:((node l k w r).cnt:Int)<=i
  ·rw[if_pos c] at h;rw[if_pos (show(ndT l k w r).c<=i from c)];exact h s1 (g1.mono (by omega))
  rw[if_neg c] at h hA;rw[if_neg (show¬(ndT l k w r).c<=i from c),Pg.wp_bind];refine ziH (A:=A) (tk.go g1).l (by show(l.cnt:Int) < (((l.ps++(k,w)::r.ps).length:Nat):Int);omega) (by omega) (λnd hd=>hA nd (Jl _ (Jk _ hd))) λs2 g2=>?_;have n2:=g2.n;have g12:=g1.trans g2;by_cases e1:i=(l.cnt:Int)
  ·rw[if_pos e1] at h;rw[if_pos e1];exact h s2 (g12.mono (by omega))
  rw[if_neg e1] at h hA;rw[if_neg e1];by_cases e2:i < (l.cnt:Int)
  ·rw[if_pos e2] at h hA;rw[if_pos e2];exact zh3 (T:=l) (tk.go g12).l (by omega) (by show(l.cnt:Int) < (((l.ps++(k,w)::r.ps).length:Nat):Int);omega) (by omega) (λnd hd=>hA nd (Jl _ (Jf _ hd))) λs3 g3=>h s3 ((g12.trans g3).mono (by omega))
  ·rw[if_neg e2] at h hA;rw[if_neg e2];exact zh3 (T:=r) (tk.go g12).r (by omega) (by show(r.cnt:Int) < (((l.ps++(k,w)::r.ps).length:Nat):Int);omega) (by omega) (λnd hd=>hA nd (Jl _ (Jf _ hd))) λs3 g3=>h s3 ((g12.trans g3).mono (by omega))
termination_by T f _ _ _ _ _ _ _ _ _ _=>f
end Pv
namespace Pv
open PySem L2
noncomputable abbrev zdL:Stmt:=top 61
theorem ziF:zr ["thing"] ["thing"] (zh zdL):=L2.fsc (by decide+kernel)
noncomputable abbrev zdj:Stmt:=top 62
theorem zei:zr ["one","other","k"] ["one","other"] (zh zdj):=L2.fsc (by decide+kernel)
def zgM (n:Nat):Sp:=λvs H Q _=>∃(t u:Th) (v w:V),vs=[v,w]/\Rep H t v/\Rep H u w/\dep t < n/\dep u < n/\Wf t/\Wf u/\∀H':Hp,Same H H'->Q (.bl (zf t u)) H'
section
variable {P:Program}{w:World}{K:QA}{mg:QB}{base:Heap}{C CC:Addr}
theorem zoA (D:Dfn K mg "_law_sort" zdL ["thing"]) (zv:mg "isinstance" =none) (zba:mg "int" =none) (zb7:mg "str" =none):Fn P w K mg base "_law_sort" 1 ["thing"] zhY:=by
 refine D.ok (k:=0) ziF (λvs H Q E h=>?_) (λf cdv A outer s H vs Q E hr h=>?_)
 ·obtain⟨t,v,rfl,_⟩:=h;rfl
 obtain⟨t,v,rfl,rt,q⟩:=h;refine⟨_,(zb (zL (zB zcI (pv 0) zaC (zA _))
 (zd (zm zg))
 zu)
 (zb (zL (zai (zH (zan) (by rfl) zv (by rfl) (za (pv 0) (za (zaS (v:=.ty "int") (by rfl) zba (by rfl) rfl) zc))))
 (zd (zm zg))
 zu)
 (zb (zL (zai (zH (zan) (by rfl) zv (by rfl) (za (pv 0) (za (zaS (v:=.ty "str") (by rfl) zb7 (by rfl) rfl) zc))))
 (zd (zm zg))
 zu)
 (zd (zm zg))))),?_⟩
 refine⟨_,rfl,rfl,_,rfl,?_⟩;cases rt with
 | non=>exact ifT (by decide) q
 | int i=>refine ifF (by rfl) ?_;refine⟨_,rfl,_,_,_,_,rfl,.int i,rfl,_,rfl,?_⟩;exact ifT rfl q
 | str x=>refine ifF (by rfl) ?_;refine⟨_,rfl,_,_,_,_,rfl,.str x,rfl,_,rfl,?_⟩;refine ifF rfl ?_;refine⟨_,rfl,_,_,_,_,rfl,.str x,rfl,_,rfl,?_⟩;exact ifT rfl q
 | tup e l h=>refine ifF (by rfl) ?_;refine⟨_,rfl,_,_,_,_,rfl,.tup e,rfl,_,rfl,?_⟩;refine ifF rfl ?_;refine⟨_,rfl,_,_,_,_,rfl,.tup e,rfl,_,rfl,?_⟩;exact ifF rfl q
theorem zpj (a b:Nat):(if (b:Int) < (a:Int) then(b:Int) else(a:Int))=((min a b:Nat):Int):=by split <;> omega
theorem zna:Clss [V.ty "int",V.ty "str"]:=λv hv=>by
 rcases List.mem_cons.mp hv with e | hv
 ·exact .inl ⟨_,e⟩
 ·exact .inl ⟨_,Jq.mp hv⟩
theorem zhr (D:Dfn K mg "_law_ahead" zdj ["one","other"]) (zbW:Fn P w K mg base "_law_sort" 1 ["thing"] zhY) (zv:mg "isinstance" =none) (zba:mg "int" =none) (zb7:mg "str" =none) (zap:mg "range" =none) (zP:mg "len" =none) (zlg:mg "min" =none):
  ∀n:Nat,Fn P w K mg base "_law_ahead" (n+2) ["one","other"] (zgM n)
 | 0=>D.never λvs H Q E h=>by obtain⟨t,u,v,w,_,_,_,h1,_⟩:=h;omega
 | n+1=>by
  have zbc:=zhr D zbW zv zba zb7 zap zP zlg n;refine D.ok (k:=n+2) zei (λvs H Q E h=>?_) (λf cdv A outer s H vs Q E hr h=>?_)
  ·obtain⟨t,u,v,w,rfl,_⟩:=h;rfl
  obtain⟨t,u,v,w,rfl,r1,r2,hd1,hd2,wf1,wf2,q⟩:=h;refine⟨_,(zb (zL (zB zcr (zF zbW hr (by omega) (by rfl) (za (pv 0) zc)) (zF zbW hr (by omega) (by rfl) (za (pv 1) zc)) (zA _))
 (zd (zm (zax zcY (zF zbW hr (by omega) (by rfl) (za (pv 0) zc)) (zF zbW hr (by omega) (by rfl) (za (pv 1) zc)) (zA _))))
 zu)
 (zb (zL (zB zcI (pv 0) zaC (zA _))
 (zd (zm zbM))
 zu)
 (zb (zL (zai (zH (zih) (by rfl) zv (by rfl) (za (pv 0) (za (zau (za (zaS (v:=.ty "int") (by rfl) zba (by rfl) rfl) (za (zaS (v:=.ty "str") (by rfl) zb7 (by rfl) rfl) zc))) zc))))
 (zd (zm (zax (OpR.or zcY zhB) (pv 0) (pv 1) (zA _))))
 zu)
 (zb (zaH PassesOwn.never rfl (zdo rfl zap (za (zH (zlR rfl) (by rfl) zlg (by rfl) (za (zH (zG) (by rfl) zP (by rfl) (za (pv 0) zc)) (za (zH (zG) (by rfl) zP (by rfl) (za (pv 1) zc)) zc))) zc)) (zah (i:=2) zei.nd rfl (Or.inl rfl))
 (zb (zL (zai (zF zbc hr (by omega) (by rfl) (za (zt zy (pv 0) (pv 2) (λ_ _=>rfl)) (za (zt zy (pv 1) (pv 2) (λ_ _=>rfl)) zc))))
 (zd (zm zbM))
 zu)
 (zd (zL (zai (zF zbc hr (by omega) (by rfl) (za (zt zy (pv 1) (pv 2) (λ_ _=>rfl)) (za (zt zy (pv 0) (pv 2) (λ_ _=>rfl)) zc))))
 (zd (zm zbM))
 zu))))
 (zd (zm (zax zcY (zH (zG) (by rfl) zP (by rfl) (za (pv 0) zc)) (zH (zG) (by rfl) zP (by rfl) (za (pv 1) zc)) (zA _)))))))),?_⟩
  refine⟨_,rfl,t,v,rfl,r1,_,rfl,u,w,rfl,r2,rfl,_,rfl,?_⟩;rw[zaN];refine ifB (λc=>?_) (λc=>?_)
  ·have ne:zav t≠zav u:=λz=>by rw[decide_eq_true z] at c;cases c
   refine⟨_,rfl,t,v,rfl,r1,_,rfl,u,w,rfl,r2,_,_,rfl,rfl,?_⟩;show Q (.bl (decide (zav t < zav u))) H;rw[<-zft ne];exact q H (Same.refl _)
  ·have eq:zav t=zav u:=by
    by_cases z:zav t=zav u
    ·exact z
    ·rw[Jd z] at c;cases c
   refine⟨_,rfl,rfl,_,rfl,?_⟩;cases r1 with
   | non=>
    refine ifT (by decide) ?_;cases r2 with
    | non=>exact q H (Same.refl _)
    | int i=>exact Ji eq (by show(0:Int)≠1;decide)
    | str x=>exact Ji eq (by show(0:Int)≠2;decide)
    | tup e l h=>exact Ji eq (by show(0:Int)≠3;decide)
   | int i=>
    refine ifF (by rfl) ?_;refine⟨_,rfl,szl (show 2<=1000 by decide),λp hp=>?_⟩;refine⟨_,p,_,_,true,rfl,zj,zna,.int i,rfl,_,rfl,ifT rfl ?_⟩;cases r2 with
    | non=>exact Ji eq (by show(1:Int)≠0;decide)
    | int j=>exact⟨_,rfl,_,rfl,.inl ⟨_,_,rfl,rfl,q _ (zk (Same.refl _) hp)⟩⟩
    | str x=>exact Ji eq (by show(1:Int)≠2;decide)
    | tup e l h=>exact Ji eq (by show(1:Int)≠3;decide)
   | str x=>
    refine ifF (by rfl) ?_;refine⟨_,rfl,szl (show 2<=1000 by decide),λp hp=>?_⟩;refine⟨_,p,_,_,true,rfl,zj,zna,.str x,rfl,_,rfl,ifT rfl ?_⟩;cases r2 with
    | non=>exact Ji eq (by show(2:Int)≠0;decide)
    | int j=>exact Ji eq (by show(2:Int)≠1;decide)
    | str y=>exact⟨_,rfl,_,rfl,.inr ⟨_,_,rfl,rfl,q _ (zk (Same.refl _) hp)⟩⟩
    | tup e l h=>exact Ji eq (by show(2:Int)≠3;decide)
   | @tup a xs ts e1 l1 h1=>
    refine ifF (by rfl) ?_;refine⟨_,rfl,szl (show 2<=1000 by decide),λp hp=>?_⟩;have sm0:Same H (upd H p (.tup [.ty "int",.ty "str"])):=zk (Same.refl _) hp;refine⟨_,p,_,_,false,rfl,zj,zna,.tup (sm0 _ _ e1),rfl,_,rfl,ifF rfl ?_⟩;cases r2 with
    | non=>exact Ji eq (by show(3:Int)≠0;decide)
    | int j=>exact Ji eq (by show(3:Int)≠1;decide)
    | str y=>exact Ji eq (by show(3:Int)≠2;decide)
    | @tup b ys us e2 l2 h2=>
     have hd1':depL ts+1 < n+1:=hd1;have hd2':depL us+1 < n+1:=hd2;have w40:ts.length<=40:=wf1.1;refine⟨_,rfl,a,_,rfl,.inr (SqT.of (sm0 _ _ e1)),_,rfl,b,_,rfl,.inr (SqT.of (sm0 _ _ e2)),?_⟩;refine⟨_,_,rfl,?_⟩;rw[zpj];refine⟨_,rfl,by omega,by omega,?_⟩;rw[Int.toNat_natCast];refine zcw (n:=min xs.length ys.length) (λi σ H'=>∃kk,σ=[some (.ref a),some (.ref b),kk]/\Same H H'/\za0 ts us=za0 (ts.drop i) (us.drop i)) ⟨_,rfl,sm0,rfl⟩ ?_ ?_
     ·rintro i σ H1 hi ⟨kk,rfl,sm,ea⟩;rw[Int.zero_add];have hi1:i < xs.length:=by omega
      have hi2:i < ys.length:=by omega
      have hx:xs[i]? =some xs[i]:=List.getElem?_eq_getElem hi1;have hy:ys[i]? =some ys[i]:=List.getElem?_eq_getElem hi2;have ht:ts[i]? =some ts[i]:=List.getElem?_eq_getElem (by omega);have hu:us[i]? =some us[i]:=List.getElem?_eq_getElem (by omega);have ra:∀{H2:Hp},Same H H2->Rep H2 ts[i] xs[i]:=λs2=>(h1 i _ _ hx ht).keep (Same.tups s2);have rb:∀{H2:Hp},Same H H2->Rep H2 us[i] ys[i]:=λs2=>(h2 i _ _ hy hu).keep (Same.tups s2);have da:=zbL ht;have db:=zbL hu;rw[zfr (by omega) (by omega)] at ea;refine⟨_,rfl,_,rfl,a,_,_,_,rfl,rfl,SqT.of (sm _ _ e1),zaT hx,_,rfl,_,rfl,b,_,_,_,rfl,rfl,SqT.of (sm _ _ e2),zaT hy,ts[i],us[i],_,_,rfl,ra sm,rb sm,by omega,by omega,wf1.2.get ht,wf2.2.get hu,λH2 s2=>⟨_,rfl,?_⟩⟩;have sm2:=sm.trans s2;refine ifB (λcc=>?_) (λcc=>?_)
      ·have ne:¬eqT ts[i] us[i]=true:=λz=>by rw[(za3 _ _).mp z,zT] at cc;cases cc
       rw[if_neg ne,cc] at ea;have:=q H2 sm2;rw[show zf (.tup ts) (.tup us)=true from ea] at this;exact this
      refine⟨_,rfl,_,rfl,b,_,_,_,rfl,rfl,SqT.of (sm2 _ _ e2),zaT hy,_,rfl,_,rfl,a,_,_,_,rfl,rfl,SqT.of (sm2 _ _ e1),zaT hx,us[i],ts[i],_,_,rfl,rb sm2,ra sm2,by omega,by omega,wf2.2.get hu,wf1.2.get ht,λH3 s3=>⟨_,rfl,?_⟩⟩;have sm3:=sm2.trans s3;refine ifB (λc2=>?_) (λc2=>?_)
      ·have ne:¬eqT ts[i] us[i]=true:=λz=>by rw[(za3 _ _).mp z,zT] at c2;cases c2
       rw[if_neg ne,cc] at ea;have:=q H3 sm3;rw[show zf (.tup ts) (.tup us)=false from ea] at this;exact this
      ·rw[if_pos (by rw[zhg cc c2];exact zaP _)] at ea;exact⟨_,rfl,sm3,ea⟩
     ·rintro σ H1 ⟨kk,rfl,sm,ea⟩;refine⟨_,rfl,a,_,rfl,.inr (SqT.of (sm _ _ e1)),_,rfl,b,_,rfl,.inr (SqT.of (sm _ _ e2)),_,_,rfl,rfl,?_⟩;rw[l1,l2,zgA] at ea;have ed:decide ((xs.length:Int) < (ys.length:Int))=za0 ts us:=by rw[ea,l1,l2];rw[Bool.eq_iff_iff];simp
      show Q (.bl (decide ((xs.length:Int) < (ys.length:Int)))) H1;rw[ed];exact q H1 sm
end
end Pv
namespace Pv
open PySem L2
noncomputable abbrev zfb:Stmt:=top 59
theorem zcO:zr ["cell","way","xs","some"] ["cell","way"] (zh zfb):=L2.fsc (by decide+kernel)
noncomputable abbrev zdh:Stmt:=top 60
theorem zek:zr ["cell","way","xs"] ["cell","way"] (zh zdh):=L2.fsc (by decide+kernel)
def ziL:Sp:=λvs H Q _=>∃(c m:Int),vs=[.int c,.int m]/\∀(t:Th) (v:V) (H':Hp),Same H H'->Rep H' t v->KeyT t->Q v H'
theorem zqj {xs:List Int}{a b c:Int}(h:Below xs [a,b,c]):∃x y z,xs=[x,y,z]/\(0<=x/\x < a)/\(0<=y/\y < b)/\0<=z/\z < c:=by
 obtain⟨l,h⟩:=h
 match xs,l,h with
 | [x,y,z],_,h=>exact⟨x,y,z,rfl,h 0 x a rfl rfl,h 1 y b rfl rfl,h 2 z c rfl rfl⟩
theorem zqD {xs:List Int}{a b c d:Int}(h:Below xs [a,b,c,d]):∃x y z u,xs=[x,y,z,u]/\(0<=x/\x < a)/\(0<=y/\y < b)/\(0<=z/\z < c)/\0<=u/\u < d:=by
 obtain⟨l,h⟩:=h
 match xs,l,h with
 | [x,y,z,u],_,h=>exact⟨x,y,z,u,rfl,h 0 x a rfl rfl,h 1 y b rfl rfl,h 2 z c rfl rfl,h 3 u d rfl rfl⟩
theorem zfH {i:Int}(h0: -(10 ^ 30)<=i)(h1:i<=10 ^ 30):KeyT (.int i):=⟨⟨h0,h1⟩,by show(0:Nat)<=3;decide,by show(1:Nat)<=10;decide,λz=>by cases z⟩
theorem zk5 {x:Str}(h:znP x):KeyT (.str x):=⟨h,by show(0:Nat)<=3;decide,by show(1:Nat)<=10;decide,λz=>by cases z⟩
section
variable {P:Program}{w:World}{K:QA}{mg:QB}{base:Heap}
theorem zqF (D:Dfn K mg "_law_key" zfb ["cell","way"]) (zdn:Fn P w K mg base "_law_parts" 2 ["cell","way","least"] zij) (zcU:Fn P w K mg base "_law_text" 1 ["number","many"] zhZ):Fn P w K mg base "_law_key" 3 ["cell","way"] ziL:=by
 refine D.ok (k:=2) zcO (λvs H Q E h=>?_) (λf cdv A outer s H vs Q E hr h=>?_)
 ·obtain⟨c,m,rfl,_⟩:=h;rfl
 obtain⟨c,m,rfl,q⟩:=h;refine⟨_,(zb (zq (i:=2) zcO.nd rfl (Or.inl rfl) (zF zdn hr (by omega) (by rfl) (za (pv 0) (za (pv 1) (za (zag (za zg (za zg (za zg (za (zC zar (zC zcc zg (zC zca zg zg)) zg) zc))))) zc)))))
 (zb (zq (i:=3) zcO.nd rfl (Or.inl rfl) (zag (za (zC zbf (zt zN (pv 2) zg (λ_ _=>rfl)) zg) (za (zC zbf (zt zN (pv 2) zg (λ_ _=>rfl)) zg) (za (zC zbf (zt zN (pv 2) zg (λ_ _=>rfl)) zg) (za (zC zbf (zt zN (pv 2) zg (λ_ _=>rfl)) (zC zca zg zg)) (za (zF zcU hr (by omega) (by rfl) (za (zt zN (pv 2) zg (λ_ _=>rfl)) (za (zC zar (zt zN (pv 2) zg (λ_ _=>rfl)) zg) zc))) zc)))))))
 (zb (zq (i:=3) zcO.nd rfl (Or.inl rfl) (zC zbJ (pv 3) (zag (za (zau (za (zC zaO (zt zN (pv 2) zg (λ_ _=>rfl)) zg) (za (zF zcU hr (by omega) (by rfl) (za (zt zN (pv 2) zg (λ_ _=>rfl)) (za (zC zaO (zt zN (pv 2) zg (λ_ _=>rfl)) zg) zc))) zc))) (za (zau (za zaC (za (zau (za (zC zaO (zt zN (pv 2) zg (λ_ _=>rfl)) zg) (za (zau (za (zC zaO (zt zN (pv 2) zg (λ_ _=>rfl)) zg) zc)) zc))) zc))) zc)))))
 (zd (zm (zt zN (pv 3) (zt zN (pv 2) zg (λ_ _=>rfl)) (λ_ _=>rfl))))))),?_⟩
 have e30:(10:Int) ^ (30:Int).toNat=1000000000000000000000000000000:=by decide+kernel
 refine⟨_,rfl,_,rfl,_,_,rfl,rfl,⟨by decide,by decide,by decide⟩,_,_,rfl,rfl,.inl ⟨by decide,by decide⟩,_,_,rfl,rfl,szl (show 4<=1000 by decide),λp hp=>?_⟩;refine⟨c,m,p,[7,24,12,2 * (10:Int) ^ (30:Int).toNat+1],rfl,zj,by decide,by decide+kernel,λr xs H1 s1 er hb=>?_⟩;have s01:Same H H1:=(zk (Same.refl H) hp).trans s1;obtain⟨x0,x1,x2,x3,rfl,b0,b1,b2,b3⟩:=zqD hb;have es:SqL K H1 r [.int x0,.int x1,.int x2,.int x3]:=SqL.of er;refine⟨_,rfl,r,_,_,_,rfl,rfl,es,rfl,_,_,rfl,rfl,_,rfl,r,_,_,_,rfl,rfl,es,rfl,_,_,rfl,rfl,_,rfl,r,_,_,_,rfl,rfl,es,rfl,_,_,rfl,rfl,?_⟩;refine⟨_,rfl,r,_,_,_,rfl,rfl,es,rfl,_,_,rfl,rfl,⟨by decide,by decide,by decide⟩,_,_,rfl,rfl,?_⟩;refine⟨_,rfl,r,_,_,_,rfl,rfl,es,rfl,_,rfl,r,_,_,_,rfl,rfl,es,rfl,_,_,rfl,rfl,x3,_,rfl,by omega,by omega,λtx1 htx1=>?_⟩;refine⟨szl (show 5<=1000 by decide),λpl hpl=>?_⟩;have sa:=zk (o:=.lst [.int (x1 - 12),.int (x1 - 12),.int (x1 - 12),.int (x3 - (10:Int) ^ (30:Int).toNat),.str tx1]) (Same.refl H1) hpl;have el:upd H1 pl (.lst [.int (x1 - 12),.int (x1 - 12),.int (x1 - 12),.int (x3 - (10:Int) ^ (30:Int).toNat),.str tx1]) pl=some (.lst [.int (x1 - 12),.int (x1 - 12),.int (x1 - 12),.int (x3 - (10:Int) ^ (30:Int).toNat),.str tx1]):=zj;generalize upd H1 pl (.lst [.int (x1 - 12),.int (x1 - 12),.int (x1 - 12),.int (x3 - (10:Int) ^ (30:Int).toNat),.str tx1])=H2 at sa el;have es2:SqL K H2 r [.int x0,.int x1,.int x2,.int x3]:=SqL.of (sa _ _ er);refine⟨_,rfl,_,rfl,r,_,_,_,rfl,rfl,es2,rfl,_,_,rfl,rfl,(show(0:Int) < 5 by decide),?_⟩;refine⟨_,rfl,r,_,_,_,rfl,rfl,es2,rfl,_,rfl,r,_,_,_,rfl,rfl,es2,rfl,_,_,rfl,rfl,(show(0:Int) < 3 by decide),x3,_,rfl,by omega,by omega,λtx2 htx2=>?_⟩;refine⟨szl (show 2<=1000 by decide),λp1 h1=>?_⟩;have sb:=zk (o:=.tup [.int (x1 % 5),.str tx2]) sa h1;have rp1:=(RepL.cons (.int (x1 % 5)) (.cons (.str tx2) .nil)).new h1;have el3:=zk (o:=.tup [.int (x1 % 5),.str tx2]) (Same.refl H2) h1 _ _ el;generalize upd H2 p1 (.tup [.int (x1 % 5),.str tx2])=H3 at sb rp1 el3;have es3:SqL K H3 r [.int x0,.int x1,.int x2,.int x3]:=SqL.of (sb _ _ er);refine⟨_,rfl,r,_,_,_,rfl,rfl,es3,rfl,_,_,rfl,rfl,(show(0:Int) < 3 by decide),_,rfl,r,_,_,_,rfl,rfl,es3,rfl,_,_,rfl,rfl,(show(0:Int) < 4 by decide),szl (show 1<=1000 by decide),λp2 h2=>?_⟩;have s34:=zk (o:=.tup [.int (x2 % 4)]) (Same.refl H3) h2;have rp2:=(RepL.cons (.int (x2 % 4)) .nil).new h2;generalize upd H3 p2 (.tup [.int (x2 % 4)])=H4 at s34 rp2;refine⟨szl (show 2<=1000 by decide),λp3 h3=>?_⟩;have s45:=zk (o:=.tup [.int (x1 % 3),.ref p2]) (Same.refl H4) h3;have rp3:=(RepL.cons (.int (x1 % 3)) (.cons rp2 .nil)).new h3;generalize upd H4 p3 (.tup [.int (x1 % 3),.ref p2])=H5 at s45 rp3;refine⟨szl (show 2<=1000 by decide),λp4 h4=>?_⟩;have s56:=zk (o:=.tup [.non,.ref p3]) (Same.refl H5) h4;have rp4:=(RepL.cons .non (.cons rp3 .nil)).new h4;generalize upd H5 p4 (.tup [.non,.ref p3])=H6 at s56 rp4;have s36:=(s34.trans s45).trans s56;refine⟨szl (show 2<=1000 by decide),λl hl=>?_⟩;have s67:=zk (o:=.lst [.ref p1,.ref p4]) (Same.refl H6) hl;have e7:upd H6 l (.lst [.ref p1,.ref p4]) l=some (.lst [.ref p1,.ref p4]):=zj;generalize upd H6 l (.lst [.ref p1,.ref p4])=H7 at s67 e7;have s37:=s36.trans s67;refine⟨pl,l,_,_,rfl,rfl,s37 _ _ el3,e7,szl (show 7<=1000 by decide),λrr hrr=>?_⟩;have s78:=zk (o:=.lst ([.int (x1 - 12),.int (x1 - 12),.int (x1 - 12),.int (x3 - (10:Int) ^ (30:Int).toNat),.str tx1]++ [.ref p1,.ref p4])) (Same.refl H7) hrr;have e8:upd H7 rr (.lst ([.int (x1 - 12),.int (x1 - 12),.int (x1 - 12),.int (x3 - (10:Int) ^ (30:Int).toNat),.str tx1]++ [.ref p1,.ref p4])) rr=some (.lst [.int (x1 - 12),.int (x1 - 12),.int (x1 - 12),.int (x3 - (10:Int) ^ (30:Int).toNat),.str tx1,.ref p1,.ref p4]):=zj;generalize upd H7 rr (.lst ([.int (x1 - 12),.int (x1 - 12),.int (x1 - 12),.int (x3 - (10:Int) ^ (30:Int).toNat),.str tx1]++ [.ref p1,.ref p4]))=H8 at s78 e8;have s38:=s37.trans s78;have rl:RepL H8 [.int (x1 - 12),.int (x1 - 12),.int (x1 - 12),.int (x3 - (10:Int) ^ (30:Int).toNat),.str tx1,.tup [.int (x1 % 5),.str tx2],.tup [.non,.tup [.int (x1 % 3),.tup [.int (x2 % 4)]]]] [.int (x1 - 12),.int (x1 - 12),.int (x1 - 12),.int (x3 - (10:Int) ^ (30:Int).toNat),.str tx1,.ref p1,.ref p4]:=
  .cons (.int _) (.cons (.int _) (.cons (.int _) (.cons (.int _) (.cons (.str _) (.cons (rp1.keep (Same.tups s38)) (.cons (rp4.keep (Same.tups (s67.trans s78))) .nil))))))
 have all:∀t∈ [Th.int (x1 - 12),.int (x1 - 12),.int (x1 - 12),.int (x3 - (10:Int) ^ (30:Int).toNat),.str tx1,.tup [.int (x1 % 5),.str tx2],.tup [.non,.tup [.int (x1 % 3),.tup [.int (x2 % 4)]]]],KeyT t:=by
  intro t ht;have k1:KeyT (.int (x1 - 12)):=zfH (by omega) (by omega);have k2:KeyT (.int (x3 - (10:Int) ^ (30:Int).toNat)):=by rw[e30] at b3 ⊢;exact zfH (by omega) (by omega)
  have k4:KeyT (.tup [.int (x1 % 5),.str tx2]):=⟨⟨by show(2:Nat)<=40;decide,⟨by omega,by omega⟩,htx2,trivial⟩,by show(1:Nat)<=3;decide,by show(3:Nat)<=10;decide,λz=>by cases z⟩
  have k5:KeyT (.tup [.non,.tup [.int (x1 % 3),.tup [.int (x2 % 4)]]]):=⟨⟨by show(2:Nat)<=40;decide,trivial,⟨by show(2:Nat)<=40;decide,⟨by omega,by omega⟩,⟨by show(1:Nat)<=40;decide,⟨by omega,by omega⟩,trivial⟩,trivial⟩,trivial⟩,by show(3:Nat)<=3;decide,by show(6:Nat)<=10;decide,λz=>by cases z⟩
  simp only[List.mem_cons,List.not_mem_nil,or_false] at ht;rcases ht with h | h | h | h | h | h | h <;> subst h
  ·exact k1
  ·exact k1
  ·exact k1
  ·exact k2
  ·exact zk5 htx1
  ·exact k4
  ·exact k5
 obtain⟨v,t,ev,rv,kt⟩:=rl.pick b0.1 (by show x0 < ((7:Nat):Int);omega) all;have es8:SqL K H8 r [.int x0,.int x1,.int x2,.int x3]:=SqL.of (s38 _ _ (sb _ _ er));exact⟨_,rfl,_,rfl,r,_,_,_,rfl,rfl,es8,rfl,rr,_,_,_,rfl,rfl,SqL.of e8,ev,q t v H8 ((s01.trans sb).trans s38) rv kt⟩
theorem zmD (D:Dfn K mg "_law_worth" zdh ["cell","way"]) (zdn:Fn P w K mg base "_law_parts" 2 ["cell","way","least"] zij) (zcU:Fn P w K mg base "_law_text" 1 ["number","many"] zhZ):Fn P w K mg base "_law_worth" 3 ["cell","way"] ziL:=by
 refine D.ok (k:=2) zek (λvs H Q E h=>?_) (λf cdv A outer s H vs Q E hr h=>?_)
 ·obtain⟨c,m,rfl,_⟩:=h;rfl
 obtain⟨c,m,rfl,q⟩:=h;refine⟨_,(zb (zq (i:=2) zek.nd rfl (Or.inl rfl) (zF zdn hr (by omega) (by rfl) (za (pv 0) (za (pv 1) (za (zag (za zg (za zg (za (zC zar (zC zcc zg (zC zca zg zg)) zg) zc)))) zc)))))
 (zd (zm (zt zN (zag (za (zC zbf (zt zN (pv 2) zg (λ_ _=>rfl)) zg) (za (zC zbf (zt zN (pv 2) zg (λ_ _=>rfl)) (zC zca zg zg)) (za (zF zcU hr (by omega) (by rfl) (za (zt zN (pv 2) zg (λ_ _=>rfl)) (za (zt zN (pv 2) zg (λ_ _=>rfl)) zc))) (za (zau (za (zt zN (pv 2) zg (λ_ _=>rfl)) (za (zau zc) (za (zau (za zaC zc)) zc)))) zc))))) (zt zN (pv 2) zg (λ_ _=>rfl)) (λ_ _=>rfl))))),?_⟩
 have e30:(10:Int) ^ (30:Int).toNat=1000000000000000000000000000000:=by decide+kernel
 refine⟨_,rfl,_,rfl,_,_,rfl,rfl,⟨by decide,by decide,by decide⟩,_,_,rfl,rfl,.inl ⟨by decide,by decide⟩,_,_,rfl,rfl,szl (show 3<=1000 by decide),λp hp=>?_⟩;refine⟨c,m,p,[4,9,2 * (10:Int) ^ (30:Int).toNat+1],rfl,zj,by decide,by decide+kernel,λr xs H1 s1 er hb=>?_⟩;have s01:Same H H1:=(zk (Same.refl H) hp).trans s1;obtain⟨x0,x1,x2,rfl,b0,b1,b2⟩:=zqj hb;have es:SqL K H1 r [.int x0,.int x1,.int x2]:=SqL.of er;refine⟨_,rfl,r,_,_,_,rfl,rfl,es,rfl,_,_,rfl,rfl,_,rfl,r,_,_,_,rfl,rfl,es,rfl,_,_,rfl,rfl,⟨by decide,by decide,by decide⟩,_,_,rfl,rfl,?_⟩;refine⟨_,rfl,r,_,_,_,rfl,rfl,es,rfl,_,rfl,r,_,_,_,rfl,rfl,es,rfl,x2,_,rfl,by omega,by omega,λtx1 htx1=>?_⟩;refine⟨_,rfl,r,_,_,_,rfl,rfl,es,rfl,szl (show 0<=1000 by decide),λp1 h1=>?_⟩;have s12:=zk (o:=.tup []) (Same.refl H1) h1;have rp1:=(RepL.nil (H:=H1)).new h1;generalize upd H1 p1 (.tup [])=H2 at s12 rp1;refine⟨szl (show 1<=1000 by decide),λp2 h2=>?_⟩;have s23:=zk (o:=.tup [.non]) (Same.refl H2) h2;have rp2:=(RepL.cons (H:=H2) .non .nil).new h2;generalize upd H2 p2 (.tup [.non])=H3 at s23 rp2;refine⟨szl (show 3<=1000 by decide),λp3 h3=>?_⟩;have s34:=zk (o:=.tup [.int x1,.ref p1,.ref p2]) (Same.refl H3) h3;have rp3:=(RepL.cons (.int x1) (.cons (rp1.keep (Same.tups s23)) (.cons rp2 .nil))).new h3;generalize upd H3 p3 (.tup [.int x1,.ref p1,.ref p2])=H4 at s34 rp3;refine⟨szl (show 4<=1000 by decide),λl hl=>?_⟩;have s45:=zk (o:=.lst [.int (x1 - 4),.int (x2 - (10:Int) ^ (30:Int).toNat),.str tx1,.ref p3]) (Same.refl H4) hl;have e5:upd H4 l (.lst [.int (x1 - 4),.int (x2 - (10:Int) ^ (30:Int).toNat),.str tx1,.ref p3]) l=some (.lst [.int (x1 - 4),.int (x2 - (10:Int) ^ (30:Int).toNat),.str tx1,.ref p3]):=zj;generalize upd H4 l (.lst [.int (x1 - 4),.int (x2 - (10:Int) ^ (30:Int).toNat),.str tx1,.ref p3])=H5 at s45 e5;have s15:=((s12.trans s23).trans s34).trans s45;have rl:RepL H5 [.int (x1 - 4),.int (x2 - (10:Int) ^ (30:Int).toNat),.str tx1,.tup [.int x1,.tup [],.tup [.non]]] [.int (x1 - 4),.int (x2 - (10:Int) ^ (30:Int).toNat),.str tx1,.ref p3]:=
  .cons (.int _) (.cons (.int _) (.cons (.str _) (.cons (rp3.keep (Same.tups s45)) .nil)))
 have all:∀t∈ [Th.int (x1 - 4),.int (x2 - (10:Int) ^ (30:Int).toNat),.str tx1,.tup [.int x1,.tup [],.tup [.non]]],KeyT t:=by
  intro t ht;have k2:KeyT (.int (x2 - (10:Int) ^ (30:Int).toNat)):=by rw[e30] at b2 ⊢;exact zfH (by omega) (by omega)
  simp only[List.mem_cons,List.not_mem_nil,or_false] at ht;rcases ht with h | h | h | h <;> subst h
  ·exact zfH (by omega) (by omega)
  ·exact k2
  ·exact zk5 htx1
  ·exact⟨⟨by show(3:Nat)<=40;decide,⟨by omega,by omega⟩,⟨by show(0:Nat)<=40;decide,trivial⟩,⟨by show(1:Nat)<=40;decide,trivial,trivial⟩,trivial⟩,by show(2:Nat)<=3;decide,by show(5:Nat)<=10;decide,λz=>by cases z⟩
 obtain⟨v,t,ev,rv,kt⟩:=rl.pick b0.1 (by show x0 < ((4:Nat):Int);omega) all;have es5:SqL K H5 r [.int x0,.int x1,.int x2]:=SqL.of (s15 _ _ er);exact⟨_,rfl,r,_,_,_,rfl,rfl,es5,rfl,l,_,_,_,rfl,rfl,SqL.of e5,ev,q t v H5 (s01.trans s15) rv kt⟩
end
end Pv
namespace L2
open PySem PySem.Spec PyProof.Rows
section
variable {X:Cx}
end
end L2
namespace L2
open PySem PySem.Spec PyProof.Rows
section
variable {X:Cx}
end
end L2
namespace Px
open PySem PySem.W PySem.Builtin
section
variable {prog:Program}{w:World}{A:Around}{E:QC}{s:Shared}{K:Frag}{x D:Addr}{ox:Obj}{od:Option Obj}
theorem zlK {Q:Option Value->Shared->Prop}(X:K.In s.heap)(I:InstAt s.heap x ox D od)(hp:zd6 K D=true)(he:findIn K (.ref D) "__eq__" =some (some (.builtin "object.__eq__")))
  (h:Q (some (.bool true)) s):wpAny (model prog w) A (callSpecialIfBound? (.ref x) "__eq__" [.ref x]) Q E s:=by
 have isO:=zj2 (M:=model prog w) (T:= "object") X I hp (by decide);obtain⟨hp',g,d,t,os⟩:=s;have L1:=looks_findIn (M:=model prog w) X he;have S:=F.cmp_object.eq;have sp:∀{Q:Option Value->Shared->Prop},Q (some (.builtin "object.__eq__")) ⟨hp',g,d,t,os⟩->wpAny (model prog w) A (specialOf (.ref x) "__eq__") Q E ⟨hp',g,d,t,os⟩:=λ{Q} q=>by
  unfold specialOf
  repeat (first | (with_reducible refine wpAny_loadPart_at I.at_ ?_;rw[I.cls]) | with_reducible refine L1.at ?_ | wp_step)
  exact q
 simp only[callSpecialIfBound?,bindSpecialIfBound?];refine wpAny_holding (Ja (Ja (sp ?_)));simp only[S.bind];have cl:wpAny (model prog w) A (call (.builtin "object.__eq__") [.ref x,.ref x]) (λv=>Q (some v)) E ⟨hp',g,d,t,os⟩:=
  wpAny_call (codeAny_call_builtin S.plain F.cmpEntry_eq (check_slot F.cmpKind_eq F.cmpSplit_eq isO (F.cmpArgs_eq _ _) (objEq_entry_same h)))
 have fin:wpAny (model prog w) A (call (.builtin "object.__eq__") ([.ref x]++ [.ref x]) >>=λv=>pure (some v)) Q E ⟨hp',g,d,t,os⟩:=
  Ja (wpAny_mono cl (λv s' h'=>wpAny_pure h') λ_ _ h'=>h')
 refine Ja (wpAny_askSetting (wpAny_ite ?_));split
 ·exact Ja (wpAny_pure (wpAny_pure fin))
 ·exact wpAny_tryCatch (Ja (wpAny_pure (wpAny_pure fin)))
theorem zm4 {Q:QC}(X:K.In s.heap)(I:InstAt s.heap x ox D od)(hp:zd6 K D=true)(he:findIn K (.ref D) "__eq__" =some (some (.builtin "object.__eq__"))) (hu:A.units < cLine)
  (h:Q (.bool true) s):wpAny (model prog w) A (richCompare .Eq (.ref x) (.ref x)) Q E s:=by
 have tc:∀{Q:Option Value->Shared->Prop},Q (some (.bool true)) s->wpAny (model prog w) A (tryCompare (.ref x) "__eq__" (.ref x)) Q E s:=λ{Q} q=>by simp only[tryCompare];exact Ja (zlK X I hp he (wpAny_pure q))
 obtain⟨hp',g,d,t,os⟩:=s;have rf:∀{α:Type} {k:Bool->Sem α} {Q:α->Shared->Prop},wpAny (model prog w) A (k false) Q E ⟨hp',g,d,t,os⟩->wpAny (model prog w) A (if Value.ref D !=Value.ref D then isSubtype (.ref D) (.ref D) >>=k else pure false >>=k) Q E ⟨hp',g,d,t,os⟩:=λ{α k Q} q=>by rw[if_neg (by simp)];exact Ja (wpAny_pure q)
 simp only[richCompare,cmpInfo_Eq,oneThing_ref]
 repeat (first | with_reducible refine wpAny_cRoomFor hu ?_ | (with_reducible refine wpAny_loadPart_at I.at_ ?_;rw[I.cls]) | with_reducible refine rf ?_ | with_reducible refine tc ?_ | wp_step)
 exact h
end
end Px
namespace L2
open PySem PySem.Spec PyProof.Rows Px
section
variable {X:Cx}
theorem zrR {k:Nat}(hr:Room k X.A):OpR X (compareOp .Eq) (λx y H Q=>∃a C,x=.ref a/\y=.ref a/\H a=some (exO a C none true)/\zrA X.K C/\PySem.W.findIn X.K (.ref C) "__eq__" =some (some (.builtin "object.__eq__"))/\Q (.bl true) H):=by intro pins s σ H x y v w Q I rx ry h;obtain⟨a,C,rfl,rfl,e,kd,he,q⟩:=h;cases (show v=Value.ref a from rx);cases (show w=Value.ref a from ry);have hu:=hr.units;obtain⟨vs,sl,ge,_⟩:=zcE I.hok e;exact zm4 (od:=none) I.kIn ⟨ge,rfl,rfl,trivial⟩ kd.cl.ov he (by omega) ⟨.bl _,H,I,rfl,q⟩
theorem ziG {k:Nat}(hr:Room k X.A):OpR X (compareOp .Eq) (λx y H Q=>∃a b xs,x=.ref a/\y=.ref b/\SqL X.K H a xs/\SqL X.K H b []/\Q (.bl (xs.isEmpty)) H):=by
 intro pins s σ H x y v w Q I rx ry h;obtain⟨a,b,xs,rfl,rfl,e,e',q⟩:=h;cases (show v=Value.ref a from rx);cases (show w=Value.ref b from ry);have hu:=hr.units;obtain⟨its,r1,T1,_⟩:=I.list e;obtain⟨jts,r2,T2,_⟩:=I.list e';have n1:=r1.length;have n2:=r2.length;cases xs with
 | nil=>
  have z1:its=[]:=by cases its with | nil=>rfl | cons=>simp at n1
  have z2:jts=[]:=by cases jts with | nil=>rfl | cons=>simp at n2
  subst z1 z2;exact(PySem.SeqAt.RcAt.lists (e:=λ_=>true) T1.isList T2.isList rfl (by omega) (λj h1=>Ji h1 (Nat.not_lt_zero _))) _ _ _ _ ⟨.bl _,H,I,rfl,q⟩
 | cons c xs=>
  have z2:jts=[]:=by cases jts with | nil=>rfl | cons=>simp at n2
  subst z2;have hsz:(its.toArray.size != (#[]:Array Value).size)=true:=by rw[List.size_toArray,bne_iff_ne,<-n1,List.length_cons];exact Nat.succ_ne_zero _
  exact(PySem.SeqAt.RcAt.lists_lengths T1.isList T2.isList hsz (by omega)) _ _ _ _ ⟨.bl _,H,I,rfl,q⟩
end
end L2
namespace L2
open PySem PySem.Spec PyProof.Rows Px
structure MkrX (P:Program)(w:World)(K:QA)(mg:QB)(base:Heap)(x:Str)(C:Addr)(k:Nat)(ps:QP)(sp:Sp):Prop where
 ex:∃f fd,FnOk P w K mg base (CX1 P w) k f fd ps sp/\Binds K fd ps []/\Mk K C f/\mg x=some (.ref C)
section
variable {P:Program}{w:World}{K:QA}{mg:QB}{base:Heap}{x qual:Str}{C:Addr}{st:Stmt}{ps N:QP}{sp:Sp}{k:Nat}
end
section
variable {X:Cx}{CX:CXT}{x:Str}{C f:Addr}{fd:FuncData}{ps:QP}{sp:Sp}{k k':Nat}{e:Expr}{es:List Expr}{t:TA}{p pos:Pos}{E:XK}{ES:St->XK}
end
section
variable {X:Cx}{K:QA}{o e:Expr}{es:List Expr}{to:TE}{t:TA}{name:Str}{apos cpos:Pos}{T id:String}{r:V->List V->Hp->VK->Prop}
end
end L2
namespace Px
open PySem PySem.W PySem.Builtin
open PySem.AutoSeq1 (wpAny_loadPart')
section
variable {prog:Program}{w:World}{A:Around}{E:QC}{s:Shared}
end
end Px
namespace L2
open PySem PySem.Spec PyProof.Rows Px
section
variable {X:Cx}{e:Expr}{ta:TA}{p1 p2 q1 q2:Pos}
end
end L2
namespace L2
open PySem PySem.Spec PyProof.Rows
section
variable {X:Cx}
end
end L2
namespace L2
open PySem PySem.Spec PyProof.Rows
section
variable {X:Cx}
theorem zc0 {k:Nat}(hr:Room k X.A):OpR X (compareOp .NotEq) (λx y H Q=>∃a b xs,x=.ref a/\y=.ref b/\SqL X.K H a xs/\SqL X.K H b []/\Q (.bl (!xs.isEmpty)) H):=by
 intro pins s σ H x y v w Q I rx ry h;obtain⟨a,b,xs,rfl,rfl,e,e',q⟩:=h;cases (show v=Value.ref a from rx);cases (show w=Value.ref b from ry);have hu:=hr.units;obtain⟨its,r1,T1,_⟩:=I.list e;obtain⟨jts,r2,T2,_⟩:=I.list e';have n1:=r1.length;have n2:=r2.length;cases xs with
 | nil=>
  have z1:its=[]:=by cases its with | nil=>rfl | cons=>simp at n1
  have z2:jts=[]:=by cases jts with | nil=>rfl | cons=>simp at n2
  subst z1 z2;exact(PySem.SeqAt.RcNeAt.lists (e:=λ_=>true) T1.isList T2.isList rfl (by omega) (λj h1=>Ji h1 (Nat.not_lt_zero _))) _ _ _ _ ⟨.bl _,H,I,rfl,q⟩
 | cons c xs=>
  have z2:jts=[]:=by cases jts with | nil=>rfl | cons=>simp at n2
  subst z2;have hsz:(its.toArray.size != (#[]:Array Value).size)=true:=by rw[List.size_toArray,bne_iff_ne,<-n1,List.length_cons];exact Nat.succ_ne_zero _
  exact(PySem.SeqAt.RcNeAt.lists_lengths T1.isList T2.isList hsz (by omega)) _ _ _ _ ⟨.bl _,H,I,rfl,q⟩
end
end L2
namespace Pv
open PySem L2
open Tr
noncomputable abbrev zcG:Stmt:=top 63
theorem zdD:zr ["pairs","key","worth","k"] ["pairs","key","worth"] (zh zcG):=L2.fsc (by decide+kernel)
theorem zdN {H:Hp}{p:Th ×Th}{v:V}(rep:Rep H (zgV p) v):∃a vk vw,v=.ref a/\H a=some (.tup [vk,vw])/\Rep H p.1 vk/\Rep H p.2 vw:=by
 obtain⟨a,xs,e,ea,r1⟩:=rep.list;cases r1 with
 | cons h1 r2=>
 cases r2 with
 | cons h2 r3=>
 cases r3 with
 | nil=>exact⟨a,_,_,e,ea,h1,h2⟩
theorem zqa {ps:QH}{x w:Th}{i:Nat}{p:Th ×Th}(hs:Srt ps)(ht:∀p∈ps.take i,zf p.1 x=true)(e:ps[i]? =some p)(hp:p.1=x):insP ps x w=ps.take i++ [(x,w)]++ps.drop (i+1):=by
 have hi:i < ps.length:=(List.getElem?_eq_some_iff.mp e).1;have e1:ps=ps.take i++(x,p.2)::ps.drop (i+1):=by
  conv=>lhs;rw[<-List.take_append_drop i ps]
  rw[Jo hi];rw[List.getElem?_eq_getElem hi] at e;cases e;rw[<-hp]
 have hs':=hs;rw[e1] at hs';have h4:=(List.pairwise_cons.mp (List.pairwise_append.mp hs').2.1).1;have:=zhi (w:=p.2) (w':=w) ht h4;rw[<-e1] at this;rw[this];simp
theorem zqn {ps:QH}{x w:Th}{i:Nat}{p:Th ×Th}(hs:Srt ps)(ht:∀p∈ps.take i,zf p.1 x=true)(e:ps[i]? =some p)(hp:zf x p.1=true):insP ps x w=ps.take i++ [(x,w)]++ps.drop i:=by
 have hi:i < ps.length:=(List.getElem?_eq_some_iff.mp e).1;have hd:∀q∈ps.drop i,zf x q.1=true:=λq hq=>by
  have hs':Srt (ps.drop i):=List.Pairwise.drop hs;rw[Jo hi] at hq hs';rw[List.getElem?_eq_getElem hi] at e;cases e;rcases List.mem_cons.mp hq with rfl | hq
  ·exact hp
  ·exact zaz hp ((List.pairwise_cons.mp hs').1 q hq)
 have:=zfT (A:=ps.take i) (M:=[]) (B:=ps.drop i) (w:=w) ht hd;rw[List.append_nil,List.take_append_drop] at this;rw[this];rfl
theorem zo8 {ps:QH}{x w:Th}(ht:∀p∈ps,zf p.1 x=true):insP ps x w=ps++ [(x,w)]:=by have:=zfT (A:=ps) (M:=[]) (B:=[]) (w:=w) ht (λp h=>(nomatch h));rw[List.append_nil,List.append_nil] at this;rw[this];simp;rfl
theorem RepL.app {H:Hp}:∀{ts us:List Th} {vs ws:QQ},RepL H ts vs->RepL H us ws->RepL H (ts++us) (vs++ws)
 | _,_,_,_,.nil,r=>r
 | _,_,_,_,.cons h q,r=>.cons h (RepL.app q r)
structure PL (H:Hp)(pl:Addr)(ps:QH):Prop where
 ex:∃xs,H pl=some (.lst xs)/\RepL H (ps.map zgV) xs
theorem PL.same {H H':Hp}{pl:Addr}{ps:QH}(p:PL H pl ps)(s:Same H H'):PL H' pl ps:=by obtain⟨xs,e,r⟩:=p.ex;exact⟨xs,s _ _ e,r.keep (Same.tups s)⟩
def zpI (ps:QH):Prop:=∀p∈ps,KeyT p.1/\KeyT p.2
def zk3:Sp:=λvs H Q _=>∃(pl:Addr) (ps:QH) (x w:Th) (vx vw:V),vs=[.ref pl,vx,vw]/\PL H pl ps/\Srt ps/\zpI ps/\ps.length<=300/\Rep H x vx/\KeyT x/\Rep H w vw/\∀p H',Same H H'->H p=none->PL H' p (insP ps x w)->Q (.ref p) H'
section
variable {P:Program}{w:World}{K:QA}{mg:QB}{base:Heap}{C CC:Addr}
theorem zn5 (D:Dfn K mg "_law_put_in" zcG ["pairs","key","worth"]) (zbc:Fn P w K mg base "_law_ahead" 11 ["one","other"] (zgM 9)) (zap:mg "range" =none) (zP:mg "len" =none):Fn P w K mg base "_law_put_in" 12 ["pairs","key","worth"] zk3:=by
 refine D.ok (k:=11) zdD (λvs H Q E h=>?_) (λf cdv A outer s H vs Q E hr h=>?_)
 ·obtain⟨pl,ps,x,w,vx,vw,rfl,_⟩:=h;rfl
 obtain⟨pl,ps,x,w,vx,vw,rfl,⟨xs,el,rl⟩,hs,kp,h300,rx,kx,rw0,q⟩:=h;have hxl:xs.length=ps.length:=by rw[rl.len,List.length_map]
 refine⟨_,(zb (zaH PassesOwn.never rfl (zdo rfl zap (za (zH (zG) (by rfl) zP (by rfl) (za (pv 0) zc)) zc)) (zah (i:=3) zdD.nd rfl (Or.inl rfl))
 (zb (zL (zB (zdr hr) (zt zy (zt zN (pv 0) (pv 3) (λ_ _=>rfl)) zg (λ_ _=>rfl)) (pv 1) (zA _))
 (zd (zm (zC zbJ (zC zbJ (zaM zbq (pv 0) zb3 (zaK (pv 3))) (zag (za (zau (za (pv 1) (za (pv 2) zc))) zc))) (zaM zbq (pv 0) (zaK (zC zar (pv 3) zg)) zb3))))
 zu)
 (zd (zL (zai (zF zbc hr (by omega) (by rfl) (za (pv 1) (za (zt zy (zt zN (pv 0) (pv 3) (λ_ _=>rfl)) zg (λ_ _=>rfl)) zc))))
 (zd (zm (zC zbJ (zC zbJ (zaM zbq (pv 0) zb3 (zaK (pv 3))) (zag (za (zau (za (pv 1) (za (pv 2) zc))) zc))) (zaM zbq (pv 0) (zaK (pv 3)) zb3))))
 zu))))
 (zd (zm (zC zbJ (pv 0) (zag (za (zau (za (pv 1) (za (pv 2) zc))) zc)))))),?_⟩
 refine⟨_,rfl,pl,_,rfl,.inl (SqL.of el),_,rfl,by omega,by omega,?_⟩;rw[Int.toNat_natCast];refine zcw (n:=xs.length) (λi σ H'=>∃k3,σ=[some (.ref pl),some vx,some vw,k3]/\Same H H'/\∀p∈ps.take i,zf p.1 x=true) ⟨_,rfl,Same.refl H,λp h=>by rw[List.take_zero] at h;cases h⟩ ?_ ?_
 ·rintro i σ H1 hi ⟨k3,rfl,s1,ht⟩;rw[Int.zero_add];have hip:i < ps.length:=by omega
  have ep:ps[i]? =some ps[i]:=List.getElem?_eq_getElem hip;have ev:xs[i]? =some xs[i]:=List.getElem?_eq_getElem hi;have r1:Rep H1 (zgV ps[i]) xs[i]:=(rl.at i _ _ ev (by rw[List.getElem?_map,ep];rfl)).keep (Same.tups s1);obtain⟨a,vk,vw',exi,ea,rk,_⟩:=zdN r1;have kk:=(kp _ (Jp hip)).1;have kd:=kk.dp;have kxd:=kx.dp;have el1:=s1 _ _ el;have ix:atI xs ((i:Nat):Int)=some (.ref a):=by rw[zaT ev,exi]
  refine⟨_,rfl,_,rfl,pl,_,_,_,rfl,rfl,SqL.of el1,ix,a,_,_,_,rfl,rfl,SqT.of ea,rfl,_,rfl,ps[i].1,x,rk,rx.keep (Same.tups s1),by omega,_,rfl,?_⟩;have fin:∀(j:Nat) (H2:Hp) (s2:Same H H2),j<=ps.length->insP ps x w=ps.take i++ [(x,w)]++ps.drop j->∀p1,H2 p1=none->∀pt,upd H2 p1 (.lst (xs.take i)) pt=none->∀p2,upd (upd H2 p1 (.lst (xs.take i))) pt (.tup [vx,vw]) p2=none->∀p3,upd (upd (upd H2 p1 (.lst (xs.take i))) pt (.tup [vx,vw])) p2 (.lst [.ref pt]) p3=none->∀p4,upd (upd (upd (upd H2 p1 (.lst (xs.take i))) pt (.tup [vx,vw])) p2 (.lst [.ref pt])) p3 (.lst (xs.take i++ [.ref pt])) p4=none->∀p5,upd (upd (upd (upd (upd H2 p1 (.lst (xs.take i))) pt (.tup [vx,vw])) p2 (.lst [.ref pt])) p3 (.lst (xs.take i++ [.ref pt]))) p4 (.lst (xs.drop j)) p5=none->
    Q (.ref p5) (upd (upd (upd (upd (upd (upd H2 p1 (.lst (xs.take i))) pt (.tup [vx,vw])) p2 (.lst [.ref pt])) p3 (.lst (xs.take i++ [.ref pt]))) p4 (.lst (xs.drop j))) p5 (.lst (xs.take i++ [.ref pt]++xs.drop j))):=λj H2 s2 hj hins p1 h1 pt h2 p2 h3 p3 h4 p4 h5 p5 h6=>by
   have a1:=zk (o:=.lst (xs.take i)) s2 h1;generalize upd H2 p1 (.lst (xs.take i))=G1 at *;have rp:=(RepL.cons (rx.keep (Same.tups a1)) (.cons (rw0.keep (Same.tups a1)) .nil)).new h2;have a2:=zk (o:=.tup [vx,vw]) a1 h2;generalize upd G1 pt (.tup [vx,vw])=G2 at *;have b3:=zk (o:=.lst [.ref pt]) (Same.refl G2) h3;generalize upd G2 p2 (.lst [.ref pt])=G3 at *;have b4:=zk (o:=.lst (xs.take i++ [.ref pt])) b3 h4;generalize upd G3 p3 (.lst (xs.take i++ [.ref pt]))=G4 at *;have b5:=zk (o:=.lst (xs.drop j)) b4 h5;generalize upd G4 p4 (.lst (xs.drop j))=G5 at *;have b6:=zk (o:=.lst (xs.take i++ [.ref pt]++xs.drop j)) b5 h6;have a6:Same H (upd G5 p5 (.lst (xs.take i++ [.ref pt]++xs.drop j))):=λb o e=>b6 b o (a2 b o e);have h0:H p5=none:=by
    cases z:H p5 with
    | none=>rfl
    | some o=>rw[b5 _ _ (a2 _ _ z)] at h6;cases h6
   refine q p5 _ a6 h0 ⟨_,zj,?_⟩;rw[hins,List.map_append,List.map_append,List.map_take,List.map_drop];have ra:=rl.keep (Same.tups a6);exact RepL.app (RepL.app (ra.take i) (.cons (rp.keep (Same.tups b6)) .nil)) (ra.drop j)
  cases z:eqT ps[i].1 x with
  | true=>have ek:ps[i].1=x:=(za3 _ _).mp z;have hins:=zqa (w:=w) hs ht ep ek;refine ifT rfl ?_;refine⟨_,rfl,_,rfl,_,rfl,pl,_,rfl,SqL.of el1,λp1 h1=>?_⟩;rw[zmO (show i<=xs.length by omega)];refine⟨_,rfl,_,rfl,szl (show 2<=1000 by decide),λpt h2=>⟨szl (show 1<=1000 by decide),λp2 h3=>?_⟩⟩;refine⟨p1,p2,_,_,rfl,rfl,zk (zk (Same.refl _) h2) h3 p1 _ zj,zj,szl (by rw[List.length_take];show _+1<=1000;omega),λp3 h4=>?_⟩;refine⟨_,rfl,_,rfl,_,_,rfl,rfl,_,rfl,pl,_,rfl,SqL.of (zk (zk (zk (zk (Same.refl H1) h1) h2) h3) h4 _ _ el1),λp4 h5=>?_⟩;rw[show((i:Nat):Int)+1=((i+1:Nat):Int) from rfl,zhK (show i+1<=xs.length by omega)] at *;exact⟨p3,p4,_,_,rfl,rfl,zk (Same.refl _) h5 p3 _ zj,zj,szl (by rw[List.length_append,List.length_take,List.length_drop];show _+1+_<=1000;omega),λp5 h6=>fin (i+1) H1 s1 (by omega) hins p1 h1 pt h2 p2 h3 p3 h4 p4 h5 p5 h6⟩
  | false=>
   have ek:ps[i].1≠x:=λe=>by rw[e,zaP] at z;cases z
   refine ifF rfl ?_;refine⟨_,rfl,_,rfl,_,rfl,pl,_,_,_,rfl,rfl,SqL.of el1,ix,a,_,_,_,rfl,rfl,SqT.of ea,rfl,x,ps[i].1,_,_,rfl,rx.keep (Same.tups s1),rk,by omega,by omega,kx.wf,kk.wf,λH2 s2=>⟨_,rfl,?_⟩⟩;have s02:Same H H2:=λb o e=>s2 b o (s1 b o e);have el2:=s2 _ _ el1;cases y:zf x ps[i].1 with
   | true=>have hins:=zqn (w:=w) hs ht ep y;refine ifT rfl ?_;refine⟨_,rfl,_,rfl,_,rfl,pl,_,rfl,SqL.of el2,λp1 h1=>?_⟩;rw[zmO (show i<=xs.length by omega)];refine⟨_,rfl,_,rfl,szl (show 2<=1000 by decide),λpt h2=>⟨szl (show 1<=1000 by decide),λp2 h3=>?_⟩⟩;refine⟨p1,p2,_,_,rfl,rfl,zk (zk (Same.refl _) h2) h3 p1 _ zj,zj,szl (by rw[List.length_take];show _+1<=1000;omega),λp3 h4=>?_⟩;refine⟨_,rfl,_,rfl,_,rfl,pl,_,rfl,SqL.of (zk (zk (zk (zk (Same.refl H2) h1) h2) h3) h4 _ _ el2),λp4 h5=>?_⟩;rw[zhK (show i<=xs.length by omega)] at *;exact⟨p3,p4,_,_,rfl,rfl,zk (Same.refl _) h5 p3 _ zj,zj,szl (by rw[List.length_append,List.length_take,List.length_drop];show _+1+_<=1000;omega),λp5 h6=>fin i H2 s02 (by omega) hins p1 h1 pt h2 p2 h3 p3 h4 p4 h5 p5 h6⟩
   | false=>
    refine ifF rfl ⟨_,rfl,s02,λp hp=>?_⟩;rw[List.take_add_one,ep] at hp;rcases Jj.mp hp with hp | hp
    ·exact ht p hp
    ·have:p=ps[i]:=by simpa using hp
     rw[this];exact zby y (Ne.symm ek)
 ·rintro σ H1 ⟨k3,rfl,s1,ht⟩;have ht':∀p∈ps,zf p.1 x=true:=λp hp=>ht p (by rw[hxl,List.take_length];exact hp);refine⟨_,rfl,_,rfl,_,rfl,szl (show 2<=1000 by decide),λpt h2=>⟨szl (show 1<=1000 by decide),λp2 h3=>?_⟩⟩;have rp:=(RepL.cons (rx.keep (Same.tups s1)) (.cons (rw0.keep (Same.tups s1)) .nil)).new h2;have a2:=zk (o:=.tup [vx,vw]) s1 h2;generalize upd H1 pt (.tup [vx,vw])=G2 at *;have b3:=zk (o:=.lst [.ref pt]) (Same.refl G2) h3;have e2:upd G2 p2 (.lst [.ref pt]) p2=some (.lst [.ref pt]):=zj;generalize upd G2 p2 (.lst [.ref pt])=G3 at *;have a3:Same H G3:=λb o e=>b3 b o (a2 b o e);refine⟨pl,p2,_,_,rfl,rfl,a3 _ _ el,e2,szl (by show _+1<=1000;omega),λp3 h4=>?_⟩;have a4:=zk (o:=.lst (xs++ [.ref pt])) a3 h4;have h0:H p3=none:=by
   cases z:H p3 with
   | none=>rfl
   | some o=>rw[a3 _ _ z] at h4;cases h4
  refine q p3 _ a4 h0 ⟨_,zj,?_⟩;rw[zo8 ht',List.map_append];exact RepL.app (rl.keep (Same.tups a4)) (.cons ((rp.keep (Same.tups b3)).keep (Same.tups (zk (Same.refl G3) h4))) .nil)
end
end Pv
namespace Pv
open PySem L2
open Tr
noncomputable abbrev ze4:Stmt:=top 64
theorem zcQ:zr ["keeper","root","key","way","node"] ["keeper","root","key"] (zh ze4):=L2.fsc (by decide+kernel)
noncomputable abbrev zdQ:Stmt:=top 65
theorem zb0:zr ["keeper","root","side","way","node"] ["keeper","root","side"] (zh zdQ):=L2.fsc (by decide+kernel)
noncomputable abbrev zbR:Stmt:=top 66
theorem zcX:zr ["keeper","root","key","way"] ["keeper","root","key"] (zh zbR):=L2.fsc (by decide+kernel)
noncomputable abbrev zdV:Stmt:=top 67
theorem zbZ:zr ["keeper","way","nodes","node","root"] ["keeper","way"] (zh zdV):=L2.fsc (by decide+kernel)
noncomputable def zae (x:Th):Tr->List Tr
 | nil=>[]
 | node l k w r=>node l k w r::(if k=x then[] else if zf k x=true then zae x r else zae x l)
noncomputable def zaf (b:Bool):Tr->List Tr
 | nil=>[]
 | node l k w r=>node l k w r::(if b=true then zaf b r else zaf b l)
noncomputable def zat (x:Th)(T:Tr):List Tr:=zae x T++(match own x T with
 | nil=>[]
 | node l _ _ r=>zaf true l++zaf false r)
noncomputable def zgi:Tr->List Tr
 | nil=>[]
 | node l _ _ r=>l::[r]
noncomputable def zbB (Ts:List Tr):List Tr:=Ts++(Ts.flatMap zgi).filter λS=>decide (S.root≠0)
structure TL (H:Hp)(cs:QF)(p:Addr)(Ts:List Tr):Prop where
 ex:∃ws,H p=some (.lst ws)/\RepL H (Ts.map Tr.thing) ws
 ok:∀S∈Ts,S≠nil/\TOk cs S
theorem zbU {x:Th}{l r:Tr}{k w:Th}(h:k≠x):zae x (node l k w r)=node l k w r::zae x ((node l k w r).kid x):=by
 show node l k w r::(if k=x then[] else if zf k x=true then zae x r else zae x l)=node l k w r::zae x (if zf k x=true then r else l);rw[if_neg h];by_cases c:zf k x=true
 ·rw[if_pos c,if_pos c]
 ·rw[if_neg c,if_neg c]
theorem zcj {x:Th}{cs:QF}:∀{T:Tr},TOk cs T->∀S∈zae x T,S≠nil/\TOk cs S
 | nil,_,S,h=>by cases h
 | node l k w r,tk,S,h=>by
  rcases List.mem_cons.mp h with rfl | h
  ·exact⟨(λz=>by cases z),tk⟩
  ·by_cases e:k=x
   ·rw[if_pos e] at h;cases h
   ·rw[if_neg e] at h;by_cases c:zf k x=true
    ·rw[if_pos c] at h;exact zcj tk.r S h
    ·rw[if_neg c] at h;exact zcj tk.l S h
theorem zcm {b:Bool}{cs:QF}:∀{T:Tr},TOk cs T->∀S∈zaf b T,S≠nil/\TOk cs S
 | nil,_,S,h=>by cases h
 | node l k w r,tk,S,h=>by
  rcases List.mem_cons.mp h with rfl | h
  ·exact⟨(λz=>by cases z),tk⟩
  ·by_cases c:b=true
   ·rw[if_pos c] at h;exact zcm tk.r S h
   ·rw[if_neg c] at h;exact zcm tk.l S h
theorem zdv {x:Th}:∀{T:Tr},(zae x T).length<=T.cnt
 | nil=>Jb _
 | node l k w r=>by
  have cn:=zJ l k w r;show(if k=x then[] else if zf k x=true then zae x r else zae x l).length+1<=_;split
  ·show 0+1<=_;omega
  ·split
   ·have:=zdv (x:=x) (T:=r);omega
   ·have:=zdv (x:=x) (T:=l);omega
theorem zbI {b:Bool}:∀{T:Tr},(zaf b T).length<=T.cnt
 | nil=>Jb _
 | node l k w r=>by
  have cn:=zJ l k w r;show(if b=true then zaf b r else zaf b l).length+1<=_;split
  ·have:=zbI (b:=b) (T:=r);omega
  ·have:=zbI (b:=b) (T:=l);omega
def zj0 (C:Addr):Sp:=λvs H Q _=>∃(a d:Addr) (cs:QF) (T:Tr) (x:Th) (vx:V),vs=[.ref a,.int T.root,vx]/\VS H C a d cs/\TOk cs T/\Rep H x vx/\KeyT x/\∀p H',Same H H'->H p=none->TL H' cs p (zae x T)->Q (.ref p) H'
def zif (C:Addr):Sp:=λvs H Q _=>∃(a d:Addr) (cs:QF) (T:Tr) (b:Bool),vs=[.ref a,.int T.root,.int (if b=true then 3 else 2)]/\VS H C a d cs/\TOk cs T/\∀p H',Same H H'->H p=none->TL H' cs p (zaf b T)->Q (.ref p) H'
def zkv (C:Addr):Sp:=λvs H Q _=>∃(a d:Addr) (cs:QF) (T:Tr) (x:Th) (vx:V),vs=[.ref a,.int T.root,vx]/\VS H C a d cs/\TOk cs T/\Rep H x vx/\KeyT x/\∀p H',Same H H'->H p=none->TL H' cs p (zat x T)->Q (.ref p) H'
def zkN (C:Addr):Sp:=λvs H Q _=>∃(a d pw:Addr) (cs:QF) (Ts:List Tr),vs=[.ref a,.ref pw]/\VS H C a d cs/\TL H cs pw Ts/\Ts.length<=2000/\∀p H',Same H H'->H p=none->TL H' cs p (zbB Ts)->Q (.ref p) H'
section
variable {P:Program}{w:World}{K:QA}{mg:QB}{base:Heap}{C:Addr}
theorem zo5 (D:Dfn K mg "_law_way" ze4 ["keeper","root","key"]) (zbH:Mt P w K mg base CX0 C "thing" 1 ["self","number"] (zep C)) (c_C:Cls K C) (zbc:Fn P w K mg base "_law_ahead" 20 ["one","other"] (zgM 9)) (zba:mg "int" =none):Fn P w K mg base "_law_way" 21 ["keeper","root","key"] (zj0 C):=by
 refine D.ok (k:=20) zcQ (λvs H Q E h=>?_) (λf cdv A outer s H vs Q E hr h=>?_)
 ·obtain⟨a,d,cs,T,x,vx,rfl,_⟩:=h;rfl
 obtain⟨a,d,cs,T,x,vx,rfl,vs,tk,rx,kx,q⟩:=h;refine⟨_,(zb (zq (i:=3) zcQ.nd rfl (Or.inl rfl) (zag zc))
 (zb (zc9 PassesOwn.never (zB zcr (pv 1) zg (zA _))
 (zb (zq (i:=4) zcQ.nd rfl (Or.inl rfl) (zb5 (pv 0) c_C zbH hr (by omega) zcx (za (pv 1) zc)))
 (zb (zaU (zet PySem.F.plainAttrs_list PySem.F.slot_list_append PySem.F.type_list_append zaX (pv 3) (za (pv 4) zc)))
 (zb (zL (zB (zdr hr) (zt zy (pv 4) zg (λ_ _=>rfl)) (pv 2) (zA _))
 (zd (zm (pv 3)))
 zu)
 (zd (zq (i:=1) zcQ.nd rfl (Or.inl rfl) (zt zN (zag (za (zt zy (pv 4) zg (λ_ _=>rfl)) (za (zt zy (pv 4) zg (λ_ _=>rfl)) zc))) (zhk zlW (by rfl) zba (by rfl) (za (zF zbc hr (by omega) (by rfl) (za (pv 2) (za (zt zy (pv 4) zg (λ_ _=>rfl)) zc))) zc)) (λ_ _=>rfl))))))))
 (zd (zm (pv 3))))),?_⟩
 refine⟨szl (show 0<=1000 by decide),λpw hpw=>?_⟩;have s0:=zk (o:=.lst []) (Same.refl H) hpw;have e0:upd H pw (.lst []) pw=some (.lst []):=zj;generalize upd H pw (.lst [])=H0 at s0 e0;have hct:=tk.ct;refine⟨λm σ H'=>∃(S:Tr) (done:List Tr) (ws:QQ) (k4:Option V),m=S.cnt/\TOk cs S/\zae x T=done++zae x S/\done.length+S.cnt<=300/\σ=[some (.ref a),some (.int S.root),some vx,some (.ref pw),k4]/\Same H H'/\H' pw=some (.lst ws)/\RepL H' (done.map Tr.thing) ws,⟨T.cnt,T,[],[],_,rfl,tk,rfl,by simpa using hct,rfl,s0,e0,.nil⟩,?_⟩;rintro m σ H1 ⟨S,done,ws,k4,rfl,ts,ed,h3,rfl,s1,e1,r1⟩;have wok:=zcj (x:=x) tk;refine⟨_,rfl,rfl,_,rfl,?_⟩;rw[zaN];cases S with
 | nil=>refine ifF (by rw[decide_eq_true (show(Tr.nil).root=0 from rfl)];rfl) ⟨_,rfl,q pw H1 s1 hpw ⟨⟨ws,e1,?_⟩,wok⟩⟩;rw[ed];show RepL H1 ((done++ []).map Tr.thing) ws;rw[List.append_nil];exact r1
 | node l k wo r=>
  have cn:=zJ l k wo r;have rne:(node l k wo r).root≠0:=λy=>by cases zaV.mp y
  have vs1:=vs.same s1;obtain⟨kv,vo,_⟩:=vs1.vo;obtain⟨⟨dx,fs,eo,fl⟩,_⟩:=id vo;refine ifT (by rw[Jd rne];rfl) ⟨_,fun σ' H' h=>h,?_⟩;refine⟨_,rfl,a,dx,fs,rfl,eo,fl.n3,_,rfl,a,d,cs,_,_,rfl,vs1,ts.iv.1,λv rn=>?_⟩;obtain⟨p,vk,vw,rfl,ea,rk,rw'⟩:=zO (k:=k) (wo:=wo) rn;have hlw:ws.length=done.length:=by rw[r1.len,List.length_map]
  refine⟨_,rfl,.inl ⟨rfl,_,SqL.of e1⟩,_,rfl,pw,ws,_,rfl,rfl,e1,Jg (show ws.length < 1000 by omega) (szl (Jb _)),?_⟩;have tk1:Tups H1 (upd H1 pw (.lst (ws++ [.ref p]))):=Tups.upd λxs z=>by rw[e1] at z;cases z
  have e2:upd H1 pw (.lst (ws++ [.ref p])) pw=some (.lst (ws++ [.ref p])):=zj;have s2:Same H (upd H1 pw (.lst (ws++ [.ref p]))):=zbN s1 hpw;have r2:RepL (upd H1 pw (.lst (ws++ [.ref p]))) ((done++ [node l k wo r]).map Tr.thing) (ws++ [.ref p]):=by rw[List.map_append];exact(r1.keep tk1).snoc (rn.keep tk1)
  have ea2:=tk1 _ _ ea;have rk2:=rk.keep tk1;generalize upd H1 pw (.lst (ws++ [.ref p]))=H2 at tk1 e2 s2 r2 ea2 rk2;have et:SqT K H2 p _:=SqT.of ea2;have kk:=ts.kw.1;have kd:=kk.dp;have xd:=kx.dp;refine⟨_,rfl,p,_,_,_,rfl,rfl,et,rfl,_,rfl,k,x,rk2,rx.keep (Same.tups s2),by omega,_,rfl,?_⟩;by_cases ek:k=x
  ·have ew:zae x (node l k wo r)=[node l k wo r]:=by show _::(if k=x then[] else _)=_;rw[if_pos ek]
   rw[ew] at ed;refine ifT (ze1 ek) ⟨_,rfl,q pw H2 s2 hpw ⟨⟨_,e2,?_⟩,wok⟩⟩;rw[ed];exact r2
  ·rw[zbU ek] at ed;refine ifF (ze2 ek) ?_;refine⟨_,rfl,p,_,_,_,rfl,rfl,et,rfl,_,rfl,p,_,_,_,rfl,rfl,et,rfl,szl (show 2<=1000 by decide),λpl hpl=>?_⟩;have s3:=zk (o:=.lst [.int r.root,.int l.root]) (Same.refl H2) hpl;have el:upd H2 pl (.lst [.int r.root,.int l.root]) pl=some (.lst [.int r.root,.int l.root]):=zj;generalize upd H2 pl (.lst [.int r.root,.int l.root])=H3 at s3 el;have s03:Same H H3:=λb o e=>s3 b o (s2 b o e);refine⟨_,rfl,_,rfl,p,_,_,_,rfl,rfl,SqT.of (s3 _ _ ea2),rfl,x,k,_,_,rfl,rx.keep (Same.tups s03),rk2.keep (Same.tups s3),by omega,by omega,kx.wf,kk.wf,λH4 s4=>?_⟩;have s04:Same H H4:=λb o e=>s4 b o (s03 b o e);have el4:SqL K H4 pl [.int r.root,.int l.root]:=SqL.of (s4 _ _ el);have hkid:((node l k wo r).kid x).cnt+1<=(node l k wo r).cnt:=zhN;have fin:∃m',m' < (node l k wo r).cnt/\∃(S:Tr) (done':List Tr) (ws':QQ) (k4:Option V),m'=S.cnt/\TOk cs S/\zae x T=done'++zae x S/\done'.length+S.cnt<=300/\[some (V.ref a),some (V.int ((node l k wo r).kid x).root),some vx,some (V.ref pw),some (V.ref p)]=[some (.ref a),some (.int S.root),some vx,some (.ref pw),k4]/\Same H H4/\H4 pw=some (.lst ws')/\RepL H4 (done'.map Tr.thing) ws':=
    ⟨_,by omega,(node l k wo r).kid x,done++ [node l k wo r],_,_,rfl,ts.kid,by rw[ed,List.append_assoc];rfl,by rw[List.length_append];show done.length+1+_<=300;omega,rfl,s04,s4 _ _ (s3 _ _ e2),(r2.keep (Same.tups s3)).keep (Same.tups s4)⟩
   cases z:zf x k with
   | true=>
    have c':¬zf k x=true:=λy=>by rw[zab z] at y;cases y
    have ekid:(node l k wo r).kid x=l:=if_neg c';rw[ekid] at fin;exact .inr ⟨_,rfl,pl,_,1,.int l.root,rfl,rfl,el4,rfl,fin⟩
   | false=>have c':zf k x=true:=zby z (λy=>ek y.symm);have ekid:(node l k wo r).kid x=r:=if_pos c';rw[ekid] at fin;exact .inr ⟨_,rfl,pl,_,0,.int r.root,rfl,rfl,el4,rfl,fin⟩
theorem znE (D:Dfn K mg "_law_edge" zdQ ["keeper","root","side"]) (zbH:Mt P w K mg base CX0 C "thing" 1 ["self","number"] (zep C)) (c_C:Cls K C):Fn P w K mg base "_law_edge" 21 ["keeper","root","side"] (zif C):=by
 refine D.ok (k:=20) zb0 (λvs H Q E h=>?_) (λf cdv A outer s H vs Q E hr h=>?_)
 ·obtain⟨a,d,cs,T,b,rfl,_⟩:=h;rfl
 obtain⟨a,d,cs,T,b,rfl,vs,tk,q⟩:=h;refine⟨_,(zb (zq (i:=3) zb0.nd rfl (Or.inl rfl) (zag zc))
 (zb (zc9 PassesOwn.never (zB zcr (pv 1) zg (zA _))
 (zb (zq (i:=4) zb0.nd rfl (Or.inl rfl) (zb5 (pv 0) c_C zbH hr (by omega) zcx (za (pv 1) zc)))
 (zb (zaU (zet PySem.F.plainAttrs_list PySem.F.slot_list_append PySem.F.type_list_append zaX (pv 3) (za (pv 4) zc)))
 (zd (zq (i:=1) zb0.nd rfl (Or.inl rfl) (zt zy (pv 4) (pv 2) (λ_ _=>rfl)))))))
 (zd (zm (pv 3))))),?_⟩
 refine⟨szl (show 0<=1000 by decide),λpw hpw=>?_⟩;have s0:=zk (o:=.lst []) (Same.refl H) hpw;have e0:upd H pw (.lst []) pw=some (.lst []):=zj;generalize upd H pw (.lst [])=H0 at s0 e0;have hct:=tk.ct;have wok:=zcm (b:=b) tk;refine⟨λm σ H'=>∃(S:Tr) (done:List Tr) (ws:QQ) (k4:Option V),m=S.cnt/\TOk cs S/\zaf b T=done++zaf b S/\done.length+S.cnt<=300/\σ=[some (.ref a),some (.int S.root),some (.int (if b=true then 3 else 2)),some (.ref pw),k4]/\Same H H'/\H' pw=some (.lst ws)/\RepL H' (done.map Tr.thing) ws,⟨T.cnt,T,[],[],_,rfl,tk,rfl,by simpa using hct,rfl,s0,e0,.nil⟩,?_⟩;rintro m σ H1 ⟨S,done,ws,k4,rfl,ts,ed,h3,rfl,s1,e1,r1⟩;refine⟨_,rfl,rfl,_,rfl,?_⟩;rw[zaN];cases S with
 | nil=>refine ifF (by rw[decide_eq_true (show(Tr.nil).root=0 from rfl)];rfl) ⟨_,rfl,q pw H1 s1 hpw ⟨⟨ws,e1,?_⟩,wok⟩⟩;rw[ed];show RepL H1 ((done++ []).map Tr.thing) ws;rw[List.append_nil];exact r1
 | node l k wo r=>
  have cn:=zJ l k wo r;have rne:(node l k wo r).root≠0:=λy=>by cases zaV.mp y
  have vs1:=vs.same s1;obtain⟨kv,vo,_⟩:=vs1.vo;obtain⟨⟨dx,fs,eo,fl⟩,_⟩:=id vo;refine ifT (by rw[Jd rne];rfl) ⟨_,fun σ' H' h=>h,?_⟩;refine⟨_,rfl,a,dx,fs,rfl,eo,fl.n3,_,rfl,a,d,cs,_,_,rfl,vs1,ts.iv.1,λv rn=>?_⟩;obtain⟨p,vk,vw,rfl,ea,rk,rw'⟩:=zO (k:=k) (wo:=wo) rn;have hlw:ws.length=done.length:=by rw[r1.len,List.length_map]
  refine⟨_,rfl,.inl ⟨rfl,_,SqL.of e1⟩,_,rfl,pw,ws,_,rfl,rfl,e1,Jg (show ws.length < 1000 by omega) (szl (Jb _)),?_⟩;have tk1:Tups H1 (upd H1 pw (.lst (ws++ [.ref p]))):=Tups.upd λxs z=>by rw[e1] at z;cases z
  have e2:upd H1 pw (.lst (ws++ [.ref p])) pw=some (.lst (ws++ [.ref p])):=zj;have s2:Same H (upd H1 pw (.lst (ws++ [.ref p]))):=zbN s1 hpw;have r2:RepL (upd H1 pw (.lst (ws++ [.ref p]))) ((done++ [node l k wo r]).map Tr.thing) (ws++ [.ref p]):=by rw[List.map_append];exact(r1.keep tk1).snoc (rn.keep tk1)
  have ea2:=tk1 _ _ ea;generalize upd H1 pw (.lst (ws++ [.ref p]))=H2 at tk1 e2 s2 r2 ea2;have et:SqT K H2 p _:=SqT.of ea2;cases b with
  | true=>
   have ed':zaf true T=(done++ [node l k wo r])++zaf true r:=by rw[ed,List.append_assoc];rfl
   exact⟨_,rfl,_,rfl,p,_,_,_,rfl,rfl,et,rfl,r.cnt,by omega,r,done++ [node l k wo r],_,_,rfl,ts.r,ed',by rw[List.length_append];show done.length+1+_<=300;omega,rfl,s2,e2,r2⟩
  | false=>
   have ed':zaf false T=(done++ [node l k wo r])++zaf false l:=by rw[ed,List.append_assoc];rfl
   exact⟨_,rfl,_,rfl,p,_,_,_,rfl,rfl,et,rfl,l.cnt,by omega,l,done++ [node l k wo r],_,_,rfl,ts.l,ed',by rw[List.length_append];show done.length+1+_<=300;omega,rfl,s2,e2,r2⟩
end
end Pv
namespace Pv
open PySem L2
open Tr
theorem zeC {x:Th}:∀{T l r:Tr} {k w:Th},own x T=node l k w r->∃pre,zae x T=pre++ [node l k w r]
 | nil,_,_,_,_,h=>by cases h
 | node l' k' w' r',l,r,k,w,h=>by
  unfold own at h;by_cases e:k'=x
  ·rw[if_pos e] at h;have ew:zae x (node l' k' w' r')=[node l' k' w' r']:=by show _::(if k'=x then[] else _)=_;rw[if_pos e]
   rw[<-h,ew];exact⟨[],rfl⟩
  ·rw[if_neg e] at h;rw[zbU e];by_cases c:zf k' x=true
   ·rw[if_pos c] at h;obtain⟨pre,ep⟩:=zeC h;refine⟨node l' k' w' r'::pre,?_⟩;show _::zae x (if zf k' x=true then r' else l')=_;rw[if_pos c,ep];rfl
   ·rw[if_neg c] at h;obtain⟨pre,ep⟩:=zeC h;refine⟨node l' k' w' r'::pre,?_⟩;show _::zae x (if zf k' x=true then r' else l')=_;rw[if_neg c,ep];rfl
theorem zf1 {x:Th}:∀{T:Tr},own x T=nil->∀l k w r,node l k w r∈zae x T->k≠x
 | nil,_,_,_,_,_,h=>by cases h
 | node l' k' w' r',h,l,k,w,r,hm=>by
  unfold own at h;by_cases e:k'=x
  ·rw[if_pos e] at h;cases h
  ·rw[if_neg e] at h;rw[zbU e] at hm;rcases List.mem_cons.mp hm with z | hm
   ·cases z;exact e
   ·have hm':node l k w r∈zae x (if zf k' x=true then r' else l'):=hm;by_cases c:zf k' x=true
    ·rw[if_pos c] at h hm';exact zf1 h l k w r hm'
    ·rw[if_neg c] at h hm';exact zf1 h l k w r hm'
theorem zo7 {x:Th}{cs:QF}{T:Tr}(tk:TOk cs T):∀S∈zat x T,S≠nil/\TOk cs S:=λS h=>by
 unfold zat at h;rcases Jj.mp h with h | h
 ·exact zcj tk S h
 ·cases z:own x T with
  | nil=>rw[z] at h;cases h
  | node l k w r=>
   rw[z] at h;obtain⟨pre,ep⟩:=zeC z;have tkn:=(zcj (x:=x) tk (node l k w r) (by rw[ep];simp)).2;have h':S∈zaf true l++zaf false r:=h;rcases Jj.mp h' with h' | h'
   ·exact zcm tkn.l S h'
   ·exact zcm tkn.r S h'
theorem zfY {x:Th}{cs:QF}{T:Tr}(tk:TOk cs T):(zat x T).length<=600:=by
 have ct:=tk.ct;have h1:=zdv (x:=x) (T:=T);unfold zat;rw[List.length_append];cases z:own x T with
 | nil=>show _+0<=600;omega
 | node l k w r=>obtain⟨pre,ep⟩:=zeC z;have tkn:=(zcj (x:=x) tk (node l k w r) (by rw[ep];simp)).2;have ct2:=tkn.ct;have cn:=zJ l k w r;have h2:=zbI (b:=true) (T:=l);have h3:=zbI (b:=false) (T:=r);show _+(zaf true l++zaf false r).length<=600;rw[List.length_append];omega
section
variable {P:Program}{w:World}{K:QA}{mg:QB}{base:Heap}{C:Addr}
theorem znm (D:Dfn K mg "_law_long_way" zbR ["keeper","root","key"]) (zdz:Fn P w K mg base "_law_way" 21 ["keeper","root","key"] (zj0 C)) (zcV:Fn P w K mg base "_law_edge" 21 ["keeper","root","side"] (zif C)):Fn P w K mg base "_law_long_way" 22 ["keeper","root","key"] (zkv C):=by
 refine D.ok (k:=21) zcX (λvs H Q E h=>?_) (λf cdv A outer s H vs Q E hr h=>?_)
 ·obtain⟨a,d,cs,T,x,vx,rfl,_⟩:=h;rfl
 obtain⟨a,d,cs,T,x,vx,rfl,vs,tk,rx,kx,q⟩:=h;refine⟨_,(zb (zq (i:=3) zcX.nd rfl (Or.inl rfl) (zF zdz hr (by omega) (by rfl) (za (pv 0) (za (pv 1) (za (pv 2) zc)))))
 (zb (zL (PW.pt (zin (zB (zc0 hr) (pv 3) (zag zc) (zA _)) (zfO (zB (zdr hr) (zt zy (zt zN (pv 3) (zdc zbK zg) (λ_ _=>rfl)) zg (λ_ _=>rfl)) (pv 2) (zA _)))))
 (zd (zm (zC zbJ (zC zbJ (pv 3) (zF zcV hr (by omega) (by rfl) (za (pv 0) (za (zt zy (zt zN (pv 3) (zdc zbK zg) (λ_ _=>rfl)) zg (λ_ _=>rfl)) (za zg zc))))) (zF zcV hr (by omega) (by rfl) (za (pv 0) (za (zt zy (zt zN (pv 3) (zdc zbK zg) (λ_ _=>rfl)) zg (λ_ _=>rfl)) (za zg zc)))))))
 zu)
 (zd (zm (pv 3))))),?_⟩
 refine⟨_,rfl,_,rfl,_,rfl,a,d,cs,T,x,vx,rfl,vs,tk,rx,kx,λpw H1 s1 hpw tl=>?_⟩;obtain⟨⟨ws,ew,rw⟩,ok⟩:=tl;have vs1:=vs.same s1;have rx1:=rx.keep (Same.tups s1);have lok:=zo7 (x:=x) tk;refine⟨_,rfl,szl (show 0<=1000 by decide),λpe hpe=>?_⟩;have s12:=zk (o:=.lst []) (Same.refl H1) hpe;have ee:upd H1 pe (.lst []) pe=some (.lst []):=zj;generalize upd H1 pe (.lst [])=H2 at s12 ee;have s02:Same H H2:=λb o e=>s12 b o (s1 b o e);have ew2:=s12 _ _ ew;have rw2:=rw.keep (Same.tups s12);have rx2:=rx1.keep (Same.tups s12);have vs2:=vs1.same s12;refine⟨pw,pe,ws,rfl,rfl,SqL.of ew2,SqL.of ee,_,rfl,?_⟩;cases z:own x T with
 | nil=>
  have el:zat x T=zae x T:=by unfold zat;rw[z];exact List.append_nil _
  rw[el] at q;have out:∀H3,Same H2 H3->Q (.ref pw) H3:=λH3 s3=>q pw H3 (λb o e=>s3 b o (s02 b o e)) hpw ⟨⟨ws,s3 _ _ ew2,rw2.keep (Same.tups s3)⟩,ok⟩;rcases JD (zae x T) with e | ⟨pre,S,e⟩
  ·rw[e] at rw2;cases rw2;exact ifF rfl (ifF rfl ⟨_,rfl,out H2 (Same.refl H2)⟩)
  ·rw[List.concat_eq_append] at e;obtain⟨nn,tkS⟩:=ok S (by rw[e];simp);cases S with
   | nil=>exact Ji rfl nn
   | node l k wo r=>have ne:=zf1 z l k wo r (by rw[e];simp);have kd:=tkS.kw.1.dp;rw[e,List.map_append] at rw2;obtain⟨us,v,rfl,rus,rn⟩:=rw2.unsnoc;obtain⟨p,vk,vw,rfl,ea,rk,_⟩:=zO (k:=k) (wo:=wo) rn;refine ifT (by simp) ⟨_,rfl,_,rfl,pw,_,_,_,rfl,rfl,SqL.of ew2,zbh,p,_,_,_,rfl,rfl,SqT.of ea,rfl,_,rfl,k,x,rk,rx2,by omega,?_⟩;rw[ze2 ne];exact⟨_,rfl,ifF rfl ⟨_,rfl,out H2 (Same.refl H2)⟩⟩
 | node l k wo r=>
  obtain⟨rfl,_⟩:=zco z;obtain⟨pre,e⟩:=zeC z;have tkS:=(ok (node l k wo r) (by rw[e];simp)).2;have kd:=tkS.kw.1.dp;have el:zat k T=zae k T++(zaf true l++zaf false r):=by unfold zat;rw[z]
  have ll:=zfY (x:=k) tk;rw[el] at q lok ll;have hwl:ws.length=(zae k T).length:=by rw[rw2.len,List.length_map]
  rw[List.length_append,List.length_append] at ll;have rw2':=rw2;rw[e,List.map_append] at rw2';obtain⟨us,v,rfl,rus,rn⟩:=rw2'.unsnoc;obtain⟨p,vk,vw,rfl,ea,rk,_⟩:=zO (k:=k) (wo:=wo) rn;refine ifT (by simp) ⟨_,rfl,_,rfl,pw,_,_,_,rfl,rfl,SqL.of ew2,zbh,p,_,_,_,rfl,rfl,SqT.of ea,rfl,_,rfl,k,k,rk,rx2,by omega,?_⟩;rw[zaP];refine⟨_,rfl,ifT rfl ?_⟩;have et:SqT K H2 p _:=SqT.of ea;refine⟨_,rfl,_,rfl,_,rfl,_,rfl,pw,_,_,_,rfl,rfl,SqL.of ew2,zbh,p,_,_,_,rfl,rfl,et,rfl,a,d,cs,l,true,rfl,vs2,tkS.l,λp3 H3 s3 hp3 tl3=>?_⟩;obtain⟨⟨w3,e3,r3⟩,_⟩:=tl3;have hl3:w3.length=(zaf true l).length:=by rw[r3.len,List.length_map]
  refine⟨pw,p3,_,_,rfl,rfl,s3 _ _ ew2,e3,szl (by omega),λp4 hp4=>?_⟩;have s34:=zk (o:=.lst ((us++ [V.ref p])++w3)) (Same.refl H3) hp4;have e4:upd H3 p4 (.lst ((us++ [V.ref p])++w3)) p4=some (.lst ((us++ [V.ref p])++w3)):=zj;generalize upd H3 p4 (.lst ((us++ [V.ref p])++w3))=H4 at s34 e4;have s24:Same H2 H4:=λb o e=>s34 b o (s3 b o e);refine⟨_,rfl,_,rfl,_,rfl,pw,_,_,_,rfl,rfl,SqL.of (s24 _ _ ew2),zbh,p,_,_,_,rfl,rfl,SqT.of (s24 _ _ ea),rfl,a,d,cs,r,false,rfl,vs2.same s24,tkS.r,λp5 H5 s5 hp5 tl5=>?_⟩;obtain⟨⟨w5,e5,r5⟩,_⟩:=tl5;have hl5:w5.length=(zaf false r).length:=by rw[r5.len,List.length_map]
  refine⟨p4,p5,_,_,rfl,rfl,s5 _ _ e4,e5,szl (by rw[List.length_append];omega),λp6 hp6=>?_⟩;have s56:=zk (o:=.lst (((us++ [V.ref p])++w3)++w5)) (Same.refl H5) hp6;have e6:upd H5 p6 (.lst (((us++ [V.ref p])++w3)++w5)) p6=some (.lst (((us++ [V.ref p])++w3)++w5)):=zj;have s26:Same H2 (upd H5 p6 (.lst (((us++ [V.ref p])++w3)++w5))):=λb o e=>s56 b o (s5 b o (s24 b o e));have hp0:H p6=none:=by
   cases y:H p6 with
   | none=>rfl
   | some o=>have:=s5 _ _ (s24 _ _ (s02 _ _ y));rw[hp6] at this;cases this
  refine q p6 _ (λb o e=>s26 b o (s02 b o e)) hp0 ⟨⟨_,e6,?_⟩,lok⟩;rw[List.map_append,List.map_append,<-List.append_assoc];exact RepL.app (RepL.app (rw2.keep (Same.tups s26)) (r3.keep (Same.tups λb o e=>s56 b o (s5 b o (s34 b o e))))) (r5.keep (Same.tups s56))
theorem zmR (D:Dfn K mg "_law_kids" zdV ["keeper","way"]) (zbH:Mt P w K mg base CX0 C "thing" 1 ["self","number"] (zep C)) (c_C:Cls K C) (zfg:mg "list" =none):Fn P w K mg base "_law_kids" 2 ["keeper","way"] (zkN C):=by
 refine D.ok (k:=1) zbZ (λvs H Q E h=>?_) (λf cdv A outer s H vs Q E hr h=>?_)
 ·obtain⟨a,d,pw,cs,Ts,rfl,_⟩:=h;rfl
 obtain⟨a,d,pw,cs,Ts,rfl,vs,⟨⟨ws,ew,rw⟩,ok⟩,hts,q⟩:=h;have hl:ws.length=Ts.length:=by rw[rw.len,List.length_map]
 refine⟨_,(zb (zq (i:=2) zbZ.nd rfl (Or.inl rfl) (zhk zh6 (by rfl) zfg (by rfl) (za (pv 1) zc)))
 (zb (zaH PassesOwn.never rfl (zbG (pv 1)) (zah (i:=3) zbZ.nd rfl (Or.inl rfl))
 (zd (zaH PassesOwn.never rfl (znT (zau (za (zt zy (pv 3) zg (λ_ _=>rfl)) (za (zt zy (pv 3) zg (λ_ _=>rfl)) zc)))) (zah (i:=4) zbZ.nd rfl (Or.inl rfl))
 (zd (zL (zB zcr (pv 4) zg (zA _))
 (zd (zaU (zet PySem.F.plainAttrs_list PySem.F.slot_list_append PySem.F.type_list_append zaX (pv 2) (za (zb5 (pv 0) c_C zbH hr (by omega) zcx (za (pv 4) zc)) zc))))
 zu)))))
 (zd (zm (pv 2))))),?_⟩
 refine⟨_,rfl,pw,ws,rfl,.inl (SqL.of ew),λpn hpn=>?_⟩;have s0:=zk (o:=.lst ws) (Same.refl H) hpn;have e0:upd H pn (.lst ws) pn=some (.lst ws):=zj;generalize upd H pn (.lst ws)=H0 at s0 e0;refine⟨_,rfl,pw,rfl,⟨ws,SqL.of (s0 _ _ ew)⟩,?_⟩;have okf:∀{Ss:List Tr},(∀S∈Ss,TOk cs S)->∀S∈Ss.filter (λS=>decide (S.root≠0)),S≠nil/\TOk cs S:=λhS S hm=>by obtain⟨h1,h2⟩:=Jv.mp hm;exact⟨λz=>by subst z;exact Ji rfl (Jt h2),hS S h1⟩
 refine zc4 (xs:=ws) (λi σ H'=>∃(ns:QQ) (k3 k4:Option V),σ=[some (.ref a),some (.ref pw),some (.ref pn),k3,k4]/\Same H H'/\H' pn=some (.lst ns)/\RepL H' ((Ts++((Ts.take i).flatMap zgi).filter λS=>decide (S.root≠0)).map Tr.thing) ns/\ns.length<=Ts.length+2 * i) ⟨ws,_,_,rfl,s0,e0,by simpa using rw.keep (Same.tups s0),by omega⟩ ?_ ?_ ?_
 ·rintro i σ H' _ ⟨ns,k3,k4,rfl,sm,_⟩;exact SqL.of (sm _ _ ew)
 ·rintro i y σ H' hy ⟨ns,k3,k4,rfl,sm,en,rn,hln⟩;have hi:i < ws.length:=(List.getElem?_eq_some_iff.mp hy).1;have hiT:i < Ts.length:=by omega
  have eT:Ts[i]? =some Ts[i]:=List.getElem?_eq_getElem hiT;have ry:Rep H' (Ts[i]).thing y:=(rw.at i y _ hy (by rw[List.getElem?_map,eT];rfl)).keep (Same.tups sm);obtain⟨nn,tkS⟩:=ok Ts[i] (Jp hiT);have etk:Ts.take (i+1)=Ts.take i++ [Ts[i]]:=by rw[List.take_add_one,eT];rfl
  generalize Ts[i]=S at ry nn tkS etk;cases S with
  | nil=>exact Ji rfl nn
  | node l k wo r=>
   obtain⟨p,vk,vw,rfl,ea,rk,_⟩:=zO (k:=k) (wo:=wo) ry;have et:SqT K H' p _:=SqT.of ea;refine⟨_,rfl,p,_,_,_,rfl,rfl,et,rfl,_,rfl,p,_,_,_,rfl,rfl,et,rfl,szl (show 2<=1000 by decide),λpt hpt=>?_⟩;have s1:=zk (o:=.tup [.int l.root,.int r.root]) sm hpt;have s1':=zk (o:=.tup [.int l.root,.int r.root]) (Same.refl H') hpt;have e1:upd H' pt (.tup [.int l.root,.int r.root]) pt=some (.tup [.int l.root,.int r.root]):=zj;generalize upd H' pt (.tup [.int l.root,.int r.root])=H1 at s1 s1' e1;refine⟨pt,rfl,⟨_,SqT.of e1⟩,?_⟩;rw[etk];have e2:(Ts++(List.flatMap zgi (Ts.take i++ [node l k wo r])).filter λS=>decide (S.root≠0))=(Ts++((Ts.take i).flatMap zgi).filter λS=>decide (S.root≠0))++ [l,r].filter λS=>decide (S.root≠0):=by rw[List.flatMap_append,List.filter_append,List.append_assoc];rfl
   refine zlb (xs:=[.int l.root,.int r.root]) (λj σ H2=>∃(ns':QQ) (k4:Option V),σ=[some (.ref a),some (.ref pw),some (.ref pn),some (.ref p),k4]/\Same H H2/\H2 pt=some (.tup [.int l.root,.int r.root])/\H2 pn=some (.lst ns')/\RepL H2 (((Ts++((Ts.take i).flatMap zgi).filter λS=>decide (S.root≠0))++([l,r].take j).filter λS=>decide (S.root≠0)).map Tr.thing) ns'/\ns'.length<=Ts.length+2 * i+j) ⟨ns,_,rfl,s1,e1,s1' _ _ en,by simpa using rn.keep (Same.tups s1'),by omega⟩ ?_ ?_ ?_
   ·rintro j σ H2 _ ⟨ns',k4,rfl,_,et2,_⟩;exact SqT.of et2
   ·rintro j z σ H2 hz ⟨ns',k4,rfl,sm2,et2,en2,rn2,hl2⟩;have hj:j < 2:=(List.getElem?_eq_some_iff.mp hz).1;obtain⟨S,eS,tkS',ez⟩:∃S,[l,r].take (j+1)=[l,r].take j++ [S]/\TOk cs S/\z=.int S.root:=by
     rcases Nat.lt_or_ge j 1 with h | h
     ·have:j=0:=by omega
      subst this;exact⟨l,rfl,tkS.l,(Option.some.inj hz).symm⟩
     ·have:j=1:=by omega
      subst this;exact⟨r,rfl,tkS.r,(Option.some.inj hz).symm⟩
    subst ez;rw[eS];refine⟨_,rfl,rfl,_,rfl,?_⟩;rw[zaN];by_cases h0:S.root=0
    ·refine ifF (by rw[decide_eq_true h0];rfl) ⟨ns',_,rfl,sm2,et2,en2,?_,by omega⟩;rw[List.filter_append,show List.filter (λS=>decide (S.root≠0)) [S]=[] from List.filter_cons_of_neg (by simp[h0]),List.append_nil];exact rn2
    ·have vs2:=vs.same sm2;obtain⟨kv,vo,_⟩:=vs2.vo;obtain⟨⟨dx,fs,eo,fl⟩,_⟩:=id vo;cases S with
     | nil=>exact Ji rfl h0
     | node l2 k2 w2 r2=>
      refine ifT (by rw[Jd h0];rfl) ?_;refine⟨_,rfl,.inl ⟨rfl,_,SqL.of en2⟩,_,rfl,a,dx,fs,rfl,eo,fl.n3,_,rfl,a,d,cs,_,_,rfl,vs2,tkS'.iv.1,λv rv=>?_⟩;refine⟨pn,ns',_,rfl,rfl,en2,Jg (show ns'.length < 1000000 by omega) (by decide+kernel),?_⟩;have tkk:Tups H2 (upd H2 pn (.lst (ns'++ [v]))):=Tups.upd λxs z=>by rw[en2] at z;cases z
      refine⟨_,_,rfl,zbN sm2 hpn,tkk _ _ et2,zj,?_,by rw[List.length_append];show ns'.length+1<=_;omega⟩;rw[List.filter_append,show List.filter (λS=>decide (S.root≠0)) [node l2 k2 w2 r2]=[node l2 k2 w2 r2] from List.filter_cons_of_pos (by simp[h0]),<-List.append_assoc,List.map_append];exact(rn2.keep tkk).snoc (rv.keep tkk)
   ·rintro σ H2 ⟨ns',k4,rfl,sm2,et2,en2,rn2,hl2⟩;refine⟨ns',_,_,rfl,sm2,en2,?_,by have:([V.int l.root,V.int r.root]).length=2:=rfl;omega⟩;rw[e2];exact rn2
 ·rintro σ H' ⟨ns,k3,k4,rfl,sm,en,rn,hln⟩;rw[hl,List.take_length] at rn;refine⟨_,rfl,q pn H' sm hpn ⟨⟨ns,en,rn⟩,λS hS=>?_⟩⟩;rcases Jj.mp hS with hS | hS
  ·exact ok S hS
  ·refine okf (λS hm=>?_) S hS;obtain⟨S',h1,h2⟩:=List.mem_flatMap.mp hm;obtain⟨_,tk'⟩:=ok S' h1;cases S' with
   | nil=>cases h2
   | node l k wo r=>
    have h2':S∈ [l,r]:=h2;simp only[List.mem_cons,List.not_mem_nil,or_false] at h2';rcases h2' with rfl | rfl
    ·exact tk'.l
    ·exact tk'.r
end
end Pv
namespace Pv
open PySem L2
open Tr
noncomputable abbrev zdi:Stmt:=top 68
theorem zic:zr ["vault","root","kind","key","other","number"] ["vault","root","kind","key","other","number"] (zh zdi):=L2.fsc (by decide+kernel)
noncomputable def askP (kd n:Int)(x y:Th)(i:Int):Pg Th:=if kd=0 then zio n x else if kd=1 then(putP n x (.str "new")).bind λm=>.ret (.int m) else if kd=2 then(cutP n x).bind λm=>.ret (.int m) else if kd=3 then(zcq n x y).bind λm=>.ret (.int m) else nthQ n i
def znx (VR:VRT)(CN CB CC:Addr):Sp:=λvs H Q E=>∃(a:Addr) (D:QO) (s:Vst) (kd n:Int) (x y:Th) (vx vy:V) (i:Int),vs=[.ref a,.int n,.int kd,vx,vy,.int i]/\VR H a D s/\Rep H x vx/\KeyT x/\Rep H y vy/\KeyT y/\Out VR CN CB CC a D (askP kd n x y i) s ThR H Q E
noncomputable def askV (kd:Int)(T:Tr)(x y:Th)(i:Int):Th:=if kd=0 then endW (wayN x T) x else if kd=1 then .int (putT x (.str "new") T).root else if kd=2 then .int (cutT x T).root else if kd=3 then .int (cntV x y T) else nthV T i
noncomputable def askN (kd:Int)(T:Tr)(x y:Th)(i:Int):List Nd:=if kd=0 then wayN x T else if kd=1 then wayN x T else if kd=2 then wayN x T++gapN x T else if kd=3 then(wayN x T++cntN x T)++(wayN y T++cntN y T) else nthN T i
theorem zoQ:KeyT (.str "new"):=⟨⟨by decide+kernel,by decide+kernel⟩,by decide,by decide,λz=>by cases z⟩
theorem wp_ask {A:Th->Prop}{kd:Int}{x y:Th}{i:Int}{e:Er->Vst->Prop}(hc:∀u t s',e (.clash u t) s'){T:Tr}{s:Vst}{q:Th->Vst->Prop}(tk:TOk s.all T)(c9:T.cnt<=299)(kx:KeyT x)(ky:KeyT y)(hi:0<=i)(hn:3000<=s.n)(hA:∀nd∈askN kd T x y i,A nd.th)(h:∀s',Go A 3000 s s'->q (askV kd T x y i) s'):(askP kd T.root x y i).wp s q e:=by
 unfold askP;unfold askV at h;unfold askN at hA;by_cases h0:kd=0
 ·rw[if_pos h0] at h hA ⊢;unfold zio;rw[Pg.wp_bind];exact zgu (A:=A) tk (by omega) (by omega) (by omega) hA λs1 g1 _=>h s1 (g1.mono (by omega))
 rw[if_neg h0] at h hA ⊢;by_cases h1:kd=1
 ·rw[if_pos h1] at h hA ⊢;rw[Pg.wp_bind];exact zmK (A:=A) hc tk c9 kx zoQ (by omega) hA λs1 g1 _=>h s1 (g1.mono (by omega))
 rw[if_neg h1] at h hA ⊢;by_cases h2:kd=2
 ·rw[if_pos h2] at h hA ⊢;rw[Pg.wp_bind];exact zqC (A:=A) hc tk (by omega) (λnd hd=>hA nd (Jk _ hd)) (λnd hd=>hA nd (Jf _ hd)) λs1 g1 _=>h s1 g1
 rw[if_neg h2] at h hA ⊢;by_cases h3:kd=3
 ·rw[if_pos h3] at h hA ⊢;rw[Pg.wp_bind];exact zjH (A:=A) tk (by omega) kx.ne ky.ne (λnd hd=>hA nd (Jk _ hd)) (λnd hd=>hA nd (Jf _ hd)) λs1 g1=>h s1 g1
 rw[if_neg h3] at h hA ⊢;unfold nthQ;rw[if_neg (by omega)];exact zh3 (A:=A) tk (by omega) (by omega) (by omega) hA λs1 g1=>h s1 (g1.mono (by omega))
theorem zfK {x:Th}:∀{T:Tr},(wayN x T).map Nd.th=(zae x T).map Tr.thing
 | nil=>rfl
 | node l k w r=>by
  show(ndT l k w r).th::(if k=x then[] else if zf k x=true then wayN x r else wayN x l).map Nd.th=(node l k w r).thing::(if k=x then[] else if zf k x=true then zae x r else zae x l).map Tr.thing;congr 1;split
  ·rfl
  ·split
   ·exact zfK
   ·exact zfK
theorem zgb:∀{T:Tr},(zhv T).map Nd.th=(zaf true T).map Tr.thing
 | nil=>rfl
 | node l k w r=>congrArg ((node l k w r).thing:: ·) (zgb (T:=r))
theorem zjk:∀{T:Tr},(ziD T).map Nd.th=(zaf false T).map Tr.thing
 | nil=>rfl
 | node l k w r=>congrArg ((node l k w r).thing:: ·) (zjk (T:=l))
theorem zgL {ns:List Nd}{Ts:List Tr}(e:ns.map Nd.th=Ts.map Tr.thing){nd:Nd}(h:nd∈ns):nd.th∈Ts.map Tr.thing:=by rw[<-e];exact List.mem_map.mpr ⟨nd,h,rfl⟩
theorem zmv {Ts:List Tr}{S:Tr}{l r:Tr}{k w:Th}(hS:node l k w r∈Ts)(h:S=l\/S=r)(hn:S≠nil):S.thing∈(zbB Ts).map Tr.thing:=by refine List.mem_map.mpr ⟨S,Jf _ (Jv.mpr ⟨List.mem_flatMap.mpr ⟨_,hS,?_⟩,decide_eq_true λz=>hn (zaV.mp z)⟩),rfl⟩;show S∈ [l,r];rcases h with rfl | rfl <;> simp
theorem zkP {Ts:List Tr}{l r:Tr}{k w:Th}(hS:node l k w r∈Ts){nd:Nd}(h:nd∈topN l):nd.th∈(zbB Ts).map Tr.thing:=by
 cases l with
 | nil=>cases h
 | node a b c d=>have h':nd∈ [ndT a b c d]:=h;rw[Jq.mp h'];exact zmv (S:=node a b c d) hS (.inl rfl) (λz=>by cases z)
theorem zcs {Ts Us:List Tr}(h:∀S∈Ts,S∈Us){t:Th}(ht:t∈(zbB Ts).map Tr.thing):t∈(zbB Us).map Tr.thing:=by
 obtain⟨S,hS,rfl⟩:=List.mem_map.mp ht;refine List.mem_map.mpr ⟨S,?_,rfl⟩;rcases Jj.mp hS with hS | hS
 ·exact Jk _ (h S hS)
 ·obtain⟨h1,h2⟩:=Jv.mp hS;obtain⟨S',h3,h4⟩:=List.mem_flatMap.mp h1;exact Jf _ (Jv.mpr ⟨List.mem_flatMap.mpr ⟨S',h S' h3,h4⟩,h2⟩)
theorem zeP {Ts:List Tr}{t:Th}(h:t∈Ts.map Tr.thing):t∈(zbB Ts).map Tr.thing:=by obtain⟨S,hS,rfl⟩:=List.mem_map.mp h;exact List.mem_map.mpr ⟨S,Jk _ hS,rfl⟩
theorem zfW {x:Th}:∀{T:Tr} {nd:Nd},nd∈cntN x T->nd.th∈(zbB (zae x T)).map Tr.thing
 | nil,nd,h=>by cases h
 | node l k w r,nd,h=>by
  have h':nd∈(if zf x k=true then cntN x l else topN l++(if k=x then[] else cntN x r)):=h;by_cases c:zf x k=true
  ·have ne:k≠x:=λz=>by rw[z,zT] at c;cases c
   have c':¬zf k x=true:=λz=>by rw[zab c] at z;cases z
   rw[if_pos c] at h';have ek:(node l k w r).kid x=l:=if_neg c';rw[zbU ne,ek];exact zcs (λS hS=>Jl _ hS) (zfW h')
  ·rw[if_neg c] at h';rcases Jj.mp h' with h' | h'
   ·exact zkP (k:=k) (w:=w) (r:=r) List.mem_cons_self h'
   ·by_cases ne:k=x
    ·rw[if_pos ne] at h';cases h'
    ·rw[if_neg ne] at h';have c':zf k x=true:=zby (by cases z:zf x k with | true=>exact Ji z c | false=>rfl) (λz=>ne z.symm);have ek:(node l k w r).kid x=r:=if_pos c';rw[zbU ne,ek];exact zcs (λS hS=>Jl _ hS) (zfW h')
theorem zgF:∀{T:Tr} {i:Nat} {p:Th ×Th} {nd:Nd},Srt T.ps->T.ps[i]? =some p->nd∈nthN T (i:Int)->nd.th∈(zbB (zae p.1 T)).map Tr.thing
 | nil,_,_,nd,_,_,h=>by cases h
 | node l k w r,i,p,nd,st,e,h=>by
  obtain⟨s1,s2,s3,s4⟩:=zce st;have cn:=zJ l k w r;have hi:i < (node l k w r).cnt:=(List.getElem?_eq_some_iff.mp e).1;have e':(l.ps++(k,w)::r.ps)[i]? =some p:=e;unfold nthN at h;rcases List.mem_cons.mp h with rfl | h
  ·exact zeP (zgL zfK (show ndT l k w r∈wayN p.1 (node l k w r) from List.mem_cons_self))
  rw[if_neg (by omega)] at h;rcases Jj.mp h with h | h
  ·exact zkP (k:=k) (w:=w) (r:=r) List.mem_cons_self h
  by_cases e1:(i:Int)=(l.cnt:Int)
  ·rw[if_pos e1] at h;cases h
  rw[if_neg e1] at h;by_cases e2:(i:Int) < (l.cnt:Int)
  ·rw[if_pos e2] at h;have hl:l.ps[i]? =some p:=by rw[List.getElem?_append_left (show i < l.ps.length by have:l.ps.length=l.cnt:=rfl;omega)] at e';exact e'
   have ah:=s3 p (List.mem_of_getElem? hl);have ne:k≠p.1:=λz=>by rw[<-z,zT] at ah;cases ah
   have c':¬zf k p.1=true:=λz=>by rw[zab ah] at z;cases z
   have ek:(node l k w r).kid p.1=l:=if_neg c';rw[zbU ne,ek];exact zcs (λS hS=>Jl _ hS) (zgF s1 hl h)
  ·rw[if_neg e2] at h;have hlc:l.ps.length=l.cnt:=rfl;obtain⟨j,hj⟩:∃j,i=l.ps.length+1+j:=⟨i - l.ps.length - 1,by omega⟩;have hr:r.ps[j]? =some p:=by rw[List.getElem?_append_right (by omega),show i - l.ps.length=j+1 by omega,List.getElem?_cons_succ] at e';exact e'
   have ah:=s4 p (List.mem_of_getElem? hr);have ne:k≠p.1:=λz=>by rw[<-z,zT] at ah;cases ah
   have ek:(node l k w r).kid p.1=r:=if_pos ah;rw[show(i:Int) - (l.cnt:Int) - 1=(j:Int) by omega] at h;rw[zbU ne,ek];exact zcs (λS hS=>Jl _ hS) (zgF s2 hr h)
noncomputable def zg9 (kd:Int)(T:Tr)(x y:Th)(i:Int):List Tr:=if kd=2 then zat x T else if kd < 3 then zae x T else if kd=3 then zbB (zat x T++zat y T) else match T.ps[i.toNat]? with
 | some p=>zbB (zae p.1 T)
 | none=>zbB (zaf true T)
theorem zo1 {kd:Int}{T:Tr}{x y:Th}{i:Int}(h0:0<=kd)(h5:kd < 5)(hi:0<=i)(st:Srt T.ps){nd:Nd}(h:nd∈askN kd T x y i):nd.th∈(zg9 kd T x y i).map Tr.thing:=by
 unfold askN at h;unfold zg9;have way:∀z,nd∈wayN z T->nd.th∈(zae z T).map Tr.thing:=λz hz=>zgL zfK hz;have sub:∀z,nd.th∈(zae z T).map Tr.thing->nd.th∈(zat z T).map Tr.thing:=λz hz=>by unfold zat;rw[List.map_append];exact Jk _ hz
 by_cases e0:kd=0
 ·rw[if_pos e0] at h;rw[if_neg (by omega),if_pos (by omega)];exact way x h
 rw[if_neg e0] at h;by_cases e1:kd=1
 ·rw[if_pos e1] at h;rw[if_neg (by omega),if_pos (by omega)];exact way x h
 rw[if_neg e1] at h;by_cases e2:kd=2
 ·rw[if_pos e2] at h;rw[if_pos e2];rcases Jj.mp h with h | h
  ·exact sub x (way x h)
  ·unfold gapN at h;unfold zat;rw[List.map_append];refine Jf _ ?_;cases z:own x T with
   | nil=>rw[z] at h;cases h
   | node l k w r=>
    rw[z] at h;show nd.th∈(zaf true l++zaf false r).map Tr.thing;rw[List.map_append];have h':nd∈zhv l++ziD r:=h;rcases Jj.mp h' with h' | h'
    ·exact Jk _ (zgL zgb h')
    ·exact Jf _ (zgL zjk h')
 rw[if_neg e2] at h;rw[if_neg e2,if_neg (by omega)];by_cases e3:kd=3
 ·rw[if_pos e3] at h;rw[if_pos e3];have lng:∀z,(∀S∈zae z T,S∈zat x T++zat y T)->nd∈wayN z T++cntN z T->nd.th∈(zbB (zat x T++zat y T)).map Tr.thing:=λz hz hm=>by
   rcases Jj.mp hm with hm | hm
   ·exact zcs hz (zeP (way z hm))
   ·exact zcs hz (zfW hm)
  rcases Jj.mp h with h | h
  ·exact lng x (λS hS=>Jk _ (Jk _ hS)) h
  ·exact lng y (λS hS=>Jf _ (Jk _ hS)) h
 rw[if_neg e3] at h;rw[if_neg e3];obtain⟨j,rfl⟩:∃j:Nat,i=(j:Int):=⟨i.toNat,by omega⟩;rw[Int.toNat_natCast];cases z:T.ps[j]? with
 | some p=>exact zgF st z h
 | none=>
  have hj:T.cnt<=j:=List.getElem?_eq_none_iff.mp z;cases T with
  | nil=>cases h
  | node l k w r=>unfold nthN at h;rw[if_pos (by omega)] at h;rw[Jq.mp h];exact zeP (zgL zgb (show ndT l k w r∈zhv (node l k w r) from List.mem_cons_self))
def VRi (R C:Addr):Option (Addr ×Addr)->VRT
 | none=>VK C
 | some y=>VRd R C y.1 y.2
def zi4 (R C CN CB CC:Addr):Sp:=λvs H Q E=>∃i,znx (VRi R C i) CN CB CC vs H Q E
section
variable {P:Program}{w:World}{K:QA}{mg:QB}{base:Heap}{R C CC CN CB:Addr}
theorem znk (D:Dfn K mg "_law_asked" zdi ["vault","root","kind","key","other","number"]) (zpl:∀i,FnX P w K mg base "found" 23 ["vault","root","key"] (zed (VRi R C i) CN CB CC)) (zrE:∀i,FnX P w K mg base "put" 23 ["vault","root","key","worth"] (zgl (VRi R C i) CN CB CC)) (zrF:∀i,FnX P w K mg base "cut" 23 ["vault","root","key"] (zis (VRi R C i) CN CB CC)) (zfh:∀i,FnX P w K mg base "counted" 24 ["vault","root","low","high"] (zbT (VRi R C i) CN CB CC)) (zoe:∀i,FnX P w K mg base "nth" 6 ["vault","root","number"] (zgk (VRi R C i) CN CB CC)):
  FnX P w K mg base "_law_asked" 25 ["vault","root","kind","key","other","number"] (zi4 R C CN CB CC):=by
 refine D.okX (k:=24) zic (λvs H Q E h=>?_) (λf cdv A outer s H vs Q E hr h=>?_)
 ·obtain⟨_,a,D,s,kd,n,x,y,vx,vy,i,rfl,_⟩:=h;rfl
 obtain⟨ix,h⟩:=h;have zlh:=zpl ix;have zli:=zrE ix;have zpS:=zrF ix;have zdA:=zfh ix;have zlj:=zoe ix;generalize VRi R C ix=VR at h zlh zli zpS zdA zlj;obtain⟨a,D,s,kd,n,x,y,vx,vy,i,rfl,vs,rx,kx,ry,ky,h⟩:=h;refine⟨_,(zb (zL (zB zcu (pv 2) zg (zA _))
 (zd (zm (zW zlh hr (by omega) (by rfl) zK (za (pv 0) (za (pv 1) (za (pv 3) zc))))))
 zu)
 (zb (zL (zB zcu (pv 2) zg (zA _))
 (zd (zm (zW zli hr (by omega) (by rfl) zK (za (pv 0) (za (pv 1) (za (pv 3) (za zdH zc)))))))
 zu)
 (zb (zL (zB zcu (pv 2) zg (zA _))
 (zd (zm (zW zpS hr (by omega) (by rfl) zK (za (pv 0) (za (pv 1) (za (pv 3) zc))))))
 zu)
 (zb (zL (zB zcu (pv 2) zg (zA _))
 (zd (zm (zW zdA hr (by omega) (by rfl) zK (za (pv 0) (za (pv 1) (za (pv 3) (za (pv 4) zc)))))))
 zu)
 (zd (zm (zW zlj hr (by omega) (by rfl) zK (za (pv 0) (za (pv 1) (za (pv 5) zc)))))))))),?_⟩
 unfold Out askP at h;have dx:=kx.dp;have dy:=ky.dp;have int:∀(m:Int) (s':Vst),(Pg.ret (Th.int m)).wp s' (OutQ VR a D ThR H Q) (OutE VR CN CB CC a D H E)->OutQ VR a D IntR H Q m s':=λm s' q v H' f' vs' ev=>by have ev':v=.int m:=ev;subst ev';exact q _ H' f' vs' (Rep.int m)
 refine⟨_,rfl,rfl,_,rfl,?_⟩;rw[zaN];by_cases h0:kd=0
 ·rw[if_pos h0] at h;exact ifT (decide_eq_true h0) ⟨_,rfl,_,rfl,_,rfl,a,D,s,n,x,vx,rfl,vs,rx,by omega,h⟩
 rw[if_neg h0] at h;refine ifF (Jd h0) ⟨_,rfl,rfl,_,rfl,?_⟩;rw[zaN];by_cases h1:kd=1
 ·rw[if_pos h1,Pg.wp_bind] at h;exact ifT (decide_eq_true h1) ⟨_,rfl,_,rfl,_,rfl,a,D,s,n,x,.str "new",vx,_,rfl,vs,rx,kx.good,.str _,Pg.wp_mono int (λ_ _ z=>z) h⟩
 rw[if_neg h1] at h;refine ifF (Jd h1) ⟨_,rfl,rfl,_,rfl,?_⟩;rw[zaN];by_cases h2:kd=2
 ·rw[if_pos h2,Pg.wp_bind] at h;exact ifT (decide_eq_true h2) ⟨_,rfl,_,rfl,_,rfl,a,D,s,n,x,vx,rfl,vs,rx,by omega,Pg.wp_mono int (λ_ _ z=>z) h⟩
 rw[if_neg h2] at h;refine ifF (Jd h2) ⟨_,rfl,rfl,_,rfl,?_⟩;rw[zaN];by_cases h3:kd=3
 ·rw[if_pos h3,Pg.wp_bind] at h;exact ifT (decide_eq_true h3) ⟨_,rfl,_,rfl,_,rfl,_,rfl,a,D,s,n,x,y,vx,vy,rfl,vs,rx,ry,by omega,by omega,Pg.wp_mono int (λ_ _ z=>z) h⟩
 rw[if_neg h3] at h;exact ifF (Jd h3) ⟨_,rfl,_,rfl,_,rfl,a,D,s,n,i,rfl,vs,h⟩
end
end Pv
namespace Pv
open PySem L2
inductive TV (h:Heap):Th->Value->Prop
 | non:TV h .non .none
 | int (i:Int) (t:Tok):TV h (.int i) (.int i t)
 | str (x:Str) (t:Tok):TV h (.str x) (.str x t)
 | tup {a:Addr} {o:Obj} {items:Array Value} {n:Nat} {ts:List Th} (ho:h.get? a=some o) (hc:o.cls=.type "tuple") (hd:o.data=.seq items n) (l:items.size=ts.length)
   (k:∀(i:Nat) (u:Value) (t:Th),items[i]? =some u->ts[i]? =some t->TV h t u):TV h (.tup ts) (.ref a)
theorem TV.of {X:Cx}{pins:QE}{σ:L2.St}{H:Hp}{s:Shared}(I:L2.Inv X pins σ H s){t:Th}{v:V}(r:Rep H t v):∀{u:Value},RelV v u->TV s.heap t u:=by
 induction r with
 | non=>intro u ru;cases (show u=Value.none from ru);exact .non
 | int i=>intro u ru;obtain⟨k,rfl⟩:=ru;exact .int i k
 | str x=>intro u ru;obtain⟨k,rfl⟩:=ru;exact .str x k
 | @tup a xs ts e l h ih=>
  intro u ru;cases (show u=Value.ref a from ru);obtain⟨_,its,rv,o,h1,h2,n,h3⟩:=(show zZ X.prog X.w H s.heap a (.tup xs) from I.hok a _ e);have hl:=rv.length;refine .tup h1 h2 h3 (by rw[List.size_toArray];omega) λi u t eu et=>?_;have hi:i < xs.length:=by have:=(List.getElem?_eq_some_iff.mp et).1;omega
  have ex:xs[i]? =some xs[i]:=List.getElem?_eq_getElem hi;obtain⟨w,ew,rw'⟩:=rv.get ex;have:u=w:=by
   have e2:its[i]? =some u:=by simpa using eu
   rw[ew] at e2;exact(Option.some.inj e2).symm
  subst this;exact ih i _ _ ex et rw'
theorem TV.inj {h:Heap}{t:Th}{u:Value}(r:TV h t u):∀{t':Th},TV h t' u->t=t':=by
 induction r with
 | non=>intro t' q;cases q;rfl
 | int i k=>intro t' q;cases q;rfl
 | str x k=>intro t' q;cases q;rfl
 | @tup a o items n ts ho hc hd l k ih=>
  intro t' q;cases q with
  | @tup _ o' items' n' ts' ho' hc' hd' l' k'=>
   obtain rfl:o=o':=Option.some.inj (ho.symm.trans ho');rw[hd] at hd';injection hd' with e1 _
   subst e1;congr 1;apply List.ext_getElem?;intro i;by_cases hi:i < ts.length
   ·have e1:ts[i]? =some ts[i]:=List.getElem?_eq_getElem hi;have e2:ts'[i]? =some (ts'[i]'(by omega)):=List.getElem?_eq_getElem (by omega);have e3:items[i]? =some (items[i]'(by omega)):=Array.getElem?_eq_getElem (by omega);rw[e1,e2,ih i _ _ e3 e1 (k' i _ _ e3 e2)]
   ·rw[List.getElem?_eq_none (by omega),List.getElem?_eq_none (by omega)]
noncomputable def hsh (w:World):Th->Int
 | .non=>0xFCA86420
 | .int i=>hashInt i
 | .str x=>hashStr w x
 | .tup ts=>reduceHash (Builtin.Tuple.tupleHashOf (hshL w ts))
where hshL (w:World):List Th->List Int
 | []=>[]
 | t::ts=>hsh w t::hshL w ts
section
variable {prog:Program}{w:World}{A:Around}{E:QC}{s:Shared}
end
end Pv
set_option maxHeartbeats 400000
namespace Pv
open PySem L2 PySem.Spec PyProof.Rows
open Classical in
noncomputable def isT (h:Heap)(t:Th)(u:Value):Bool:=decide (TV h t u)
open Classical in
theorem zmu {h:Heap}{t u:Th}{v:Value}(r:TV h u v):isT h t v=eqT u t:=by
 unfold isT;cases z:eqT u t with
 | true=>have e:u=t:=(za3 u t).mp z;rw[<-e];exact decide_eq_true r
 | false=>exact Jd λq=>by rw[r.inj q,zaP] at z;cases z
section
variable {X:Cx}
theorem zkr {X:Cx}{pins:QE}{σ:L2.St}{H:Hp}{s:Shared}(I:L2.Inv X pins σ H s)(t:Th):∀{ts:List Th} {xs:QQ} {its:QN},RepL H ts xs->Vals xs its->its.any (isT s.heap t)=ts.any λu=>eqT u t
 | _,_,_,.nil,.nil=>rfl
 | _,_,_,.cons h r,.cons a b=>by rw[List.any_cons,List.any_cons,zmu (TV.of I h a),zkr I t r b]
theorem zn3 {X:Cx}{pins:QE}{σ:L2.St}{H:Hp}{s:Shared}{A:Around}(I:L2.Inv X pins σ H s){t:Th}{x:V}{v:Value}(rt:Rep H t x)(rx:RelV x v)(hu:A.units+52 < cLine):∀{ts:List Th} {xs:QQ} {its:QN},RepL H ts xs->Vals xs its->(∀u∈ts,dep u<=50)->∀w∈its,SeqAt.EqAt A s w v (isT s.heap t w)
 | _,_,_,.nil,.nil,_=>λw hw=>nomatch hw
 | u::_,_,_,.cons h r,.cons a b,hd=>λw hw=>by
  rcases List.mem_cons.mp hw with e | hw
  ·subst e;have:=hd u List.mem_cons_self;rw[zmu (TV.of I h a)];exact zn4 I h rt a rx (by omega)
  ·exact zn3 I rt rx hu r b (λz hz=>hd z (Jl _ hz)) w hw
theorem zjF {k:Nat}(hr:Room k X.A):OpR X (compareOp .NotIn) (λx y H Q=>∃b xs ts t,y=.ref b/\SqL X.K H b xs/\RepL H ts xs/\Rep H t x/\(∀u∈ts,dep u<=50)/\Q (.bl (!ts.any λu=>eqT u t)) H):=by intro pins s σ H x y v u Q I rx ry h;obtain⟨b,xs,ts,t,rfl,hq,rl,rt,hd,q⟩:=h;cases ry;obtain⟨its,r,pl,hz⟩:=I.list hq;have hu:=hr.units;refine SeqAt.notIn_listAt (isT s.heap t) pl.isList (λw hw=>zn3 I rt rx (by first | omega | (show X.A.units+1+52 < cLine;omega)) rl r hd w (by simpa using hw)) ⟨.bl _,H,I,rfl,?_⟩;rw[show its.toArray.any (isT s.heap t)=its.any (isT s.heap t) by simp,zkr I t rl r];exact q
end
end Pv
set_option maxHeartbeats 4000000
namespace L2
open PySem PySem.Spec PyProof.Rows Px Pv
theorem zjo {X:Cx}{K:QA}(hK:X.K=K){k:Nat}(hr:Room k X.A):OpR X (compareOp .NotIn) (λx y H Q=>∃b xs ts t,y=.ref b/\SqL K H b xs/\RepL H ts xs/\Rep H t x/\(∀u∈ts,dep u<=50)/\Q (.bl (!ts.any λu=>eqT u t)) H):=hK ▸ zjF hr
end L2
namespace Pv
open PySem L2
open Tr
noncomputable abbrev zfc:Stmt:=top 69
theorem zjQ:zr ["keeper","root","kind","key","other","pairs","number"] ["keeper","root","kind","key","other","pairs","number"] (zh zfc):=L2.fsc (by decide+kernel)
noncomputable abbrev zbe:Stmt:=top 70
theorem za7:zr ["paper","let","seals","k"] ["paper","let"] (zh zbe):=L2.fsc (by decide+kernel)
theorem take_snoc {α:Type}{l:List α}{i:Nat}(h:i < l.length):l.take (i+1)=l.take i++ [l[i]]:=by rw[List.take_add_one,List.getElem?_eq_getElem h];rfl
def zpG (C:Addr):Sp:=λvs H Q _=>∃(a d pl:Addr) (cs:QF) (T:Tr) (x y:Th) (vx vy:V) (kd i:Int),vs=[.ref a,.int T.root,.int kd,vx,vy,.ref pl,.int i]/\VS H C a d cs/\TOk cs T/\Rep H x vx/\KeyT x/\Rep H y vy/\KeyT y/\PL H pl T.ps/\0<=i/\∀p H',Same H H'->TL H' cs p (zg9 kd T x y i)->Q (.ref p) H'
structure PapR (H:Hp)(pp:Addr)(ts:List Th):Prop where
 ex:∃xs,H pp=some (.lst xs)/\RepL H ts xs
 gd:∀t∈ts,Good t
 up:(ts.map zE).Pairwise (· < ·)
 ln:ts.length<=900000
def zmJ:Sp:=λvs H Q _=>∃(pp pl:Addr) (ts ls:List Th) (ws:QQ),vs=[.ref pp,.ref pl]/\PapR H pp ts/\H pl=some (.lst ws)/\RepL H ls ws/\(∀u∈ls,dep u<=50)/\(∀t∈ts,t∈ls)/\∀H',Same H H'->Q (.bl true) H'
section
variable {P:Program}{w:World}{K:QA}{mg:QB}{base:Heap}{C:Addr}
theorem zpZ (D:Dfn K mg "_law_let" zfc ["keeper","root","kind","key","other","pairs","number"]) (zdz:Fn P w K mg base "_law_way" 21 ["keeper","root","key"] (zj0 C)) (zcV:Fn P w K mg base "_law_edge" 21 ["keeper","root","side"] (zif C)) (zbX:Fn P w K mg base "_law_long_way" 22 ["keeper","root","key"] (zkv C)) (zd1:Fn P w K mg base "_law_kids" 2 ["keeper","way"] (zkN C)) (zP:mg "len" =none):Fn P w K mg base "_law_let" 23 ["keeper","root","kind","key","other","pairs","number"] (zpG C):=by
 refine D.ok (k:=22) zjQ (λvs H Q E h=>?_) (λf cdv A outer s H vs Q E hr h=>?_)
 ·obtain⟨a,d,pl,cs,T,x,y,vx,vy,kd,i,rfl,_⟩:=h;rfl
 obtain⟨a,d,pl,cs,T,x,y,vx,vy,kd,i,rfl,vs,tk,rx,kx,ry,ky,pL,hi,q⟩:=h;refine⟨_,(zb (zL (zB zcu (pv 2) zg (zA _))
 (zd (zm (zF zbX hr (by omega) (by rfl) (za (pv 0) (za (pv 1) (za (pv 3) zc))))))
 zu)
 (zb (zL (zB zcY (pv 2) zg (zA _))
 (zd (zm (zF zdz hr (by omega) (by rfl) (za (pv 0) (za (pv 1) (za (pv 3) zc))))))
 zu)
 (zb (zL (zB zcu (pv 2) zg (zA _))
 (zd (zm (zF zd1 hr (by omega) (by rfl) (za (pv 0) (za (zC zbJ (zF zbX hr (by omega) (by rfl) (za (pv 0) (za (pv 1) (za (pv 3) zc)))) (zF zbX hr (by omega) (by rfl) (za (pv 0) (za (pv 1) (za (pv 4) zc))))) zc)))))
 zu)
 (zb (zL (zB zcY (pv 6) (zH (zG) (by rfl) zP (by rfl) (za (pv 5) zc)) (zA _))
 (zd (zm (zF zd1 hr (by omega) (by rfl) (za (pv 0) (za (zF zdz hr (by omega) (by rfl) (za (pv 0) (za (pv 1) (za (zt zy (zt zN (pv 5) (pv 6) (λ_ _=>rfl)) zg (λ_ _=>rfl)) zc)))) zc)))))
 zu)
 (zd (zm (zF zd1 hr (by omega) (by rfl) (za (pv 0) (za (zF zcV hr (by omega) (by rfl) (za (pv 0) (za (pv 1) (za zg zc)))) zc))))))))),?_⟩
 unfold zg9 at q;refine⟨_,rfl,rfl,_,rfl,?_⟩;rw[zaN];by_cases h2:kd=2
 ·rw[if_pos h2] at q;exact ifT (decide_eq_true h2) ⟨_,rfl,_,rfl,_,rfl,a,d,cs,T,x,vx,rfl,vs,tk,rx,kx,λp H1 s1 _ tl=>q p H1 s1 tl⟩
 rw[if_neg h2] at q;refine ifF (Jd h2) ⟨_,rfl,_,_,rfl,rfl,_,rfl,?_⟩;by_cases h3:kd < 3
 ·rw[if_pos h3] at q;exact ifT (decide_eq_true h3) ⟨_,rfl,_,rfl,_,rfl,a,d,cs,T,x,vx,rfl,vs,tk,rx,kx,λp H1 s1 _ tl=>q p H1 s1 tl⟩
 rw[if_neg h3] at q;refine ifF (Jd h3) ⟨_,rfl,rfl,_,rfl,?_⟩;rw[zaN];by_cases h4:kd=3
 ·rw[if_pos h4] at q;refine ifT (decide_eq_true h4) ⟨_,rfl,_,rfl,_,rfl,_,rfl,a,d,cs,T,x,vx,rfl,vs,tk,rx,kx,λp1 H1 s1 hp1 tl1=>?_⟩;obtain⟨⟨w1,e1,r1⟩,ok1⟩:=tl1;have l1:=zfY (x:=x) tk;have l2:=zfY (x:=y) tk;have hw1:w1.length=(zat x T).length:=by rw[r1.len,List.length_map]
  refine⟨_,rfl,_,rfl,_,rfl,a,d,cs,T,y,vy,rfl,vs.same s1,tk,ry.keep (Same.tups s1),ky,λp2 H2 s2 hp2 tl2=>?_⟩;obtain⟨⟨w2,e2,r2⟩,ok2⟩:=tl2;have hw2:w2.length=(zat y T).length:=by rw[r2.len,List.length_map]
  refine⟨p1,p2,_,_,rfl,rfl,s2 _ _ e1,e2,Jn (show w1.length+w2.length<=1000000 by omega) (by decide+kernel),λp3 hp3=>?_⟩;have s3:=zk (o:=.lst (w1++w2)) (Same.refl H2) hp3;have e3:upd H2 p3 (.lst (w1++w2)) p3=some (.lst (w1++w2)):=zj;generalize upd H2 p3 (.lst (w1++w2))=H3 at s3 e3;have s03:Same H H3:=λb o e=>s3 b o (s2 b o (s1 b o e));refine⟨a,d,p3,cs,zat x T++zat y T,rfl,vs.same s03,⟨⟨_,e3,?_⟩,λS hS=>?_⟩,by rw[List.length_append];omega,λp4 H4 s4 _ tl4=>q p4 H4 (λb o e=>s4 b o (s03 b o e)) tl4⟩
  ·rw[List.map_append];exact RepL.app ((r1.keep (Same.tups s2)).keep (Same.tups s3)) (r2.keep (Same.tups s3))
  ·rcases Jj.mp hS with hS | hS
   ·exact ok1 S hS
   ·exact ok2 S hS
 rw[if_neg h4] at q;obtain⟨xs,ex,rxs⟩:=pL.ex;have hxl:xs.length=T.ps.length:=by rw[rxs.len,List.length_map]
 have ct:=tk.ct;obtain⟨j,rfl⟩:∃j:Nat,i=(j:Int):=⟨i.toNat,by omega⟩;rw[Int.toNat_natCast] at q;refine ifF (Jd h4) ⟨_,rfl,_,rfl,pl,_,rfl,.inl (SqL.of ex),_,_,rfl,rfl,_,rfl,?_⟩;by_cases h5:j < T.ps.length
 ·have ep:T.ps[j]? =some (T.ps[j]):=List.getElem?_eq_getElem h5;have hv:xs[j]? =some (xs[j]'(by omega)):=List.getElem?_eq_getElem (by omega);have rp:=rxs.at j _ _ hv (by rw[List.getElem?_map,ep];rfl);obtain⟨kk,_⟩:=tk.ky _ (Jp h5);rw[ep] at q;generalize T.ps[j]=pr at rp kk q;obtain⟨p,vk,vw,ev,ea,rk,_⟩:=zdN rp;refine ifT (decide_eq_true (show(j:Int) < ((xs.length:Nat):Int) by omega)) ?_;refine⟨_,rfl,_,rfl,_,rfl,_,rfl,_,rfl,pl,_,_,_,rfl,rfl,SqL.of ex,by rw[zaT hv,ev],p,_,_,_,rfl,rfl,SqT.of ea,rfl,a,d,cs,T,pr.1,vk,rfl,vs,tk,rk,kk,λp1 H1 s1 _ tl1=>?_⟩;have wl1:=zdv (x:=pr.1) (T:=T);exact⟨a,d,p1,cs,_,rfl,vs.same s1,tl1,by omega,λp4 H4 s4 _ tl4=>q p4 H4 (λb o e=>s4 b o (s1 b o e)) tl4⟩
 ·rw[List.getElem?_eq_none (by omega)] at q;refine ifF (Jd (show¬(j:Int) < ((xs.length:Nat):Int) by omega)) ?_;refine⟨_,rfl,_,rfl,_,rfl,a,d,cs,T,true,rfl,vs,tk,λp1 H1 s1 _ tl1=>?_⟩;have wl1:=zbI (b:=true) (T:=T);exact⟨a,d,p1,cs,_,rfl,vs.same s1,tl1,by omega,λp4 H4 s4 _ tl4=>q p4 H4 (λb o e=>s4 b o (s1 b o e)) tl4⟩
theorem zoD (D:Dfn K mg "_law_paper_right" zbe ["paper","let"]) (zcd:Fn P w K mg base "seal" 13 ["thing"] zeR) (zv:mg "isinstance" =none) (zfg:mg "list" =none) (zap:mg "range" =none) (zP:mg "len" =none):Fn P w K mg base "_law_paper_right" 14 ["paper","let"] zmJ:=by
 refine D.ok (k:=13) za7 (λvs H Q E h=>?_) (λf cdv A outer s H vs Q E hr h=>?_)
 ·obtain⟨pp,pl,ts,ls,ws,rfl,_⟩:=h;rfl
 obtain⟨pp,pl,ts,ls,ws,rfl,⟨⟨xs,ex,rx⟩,gd,up,hln⟩,el,rl,dl,hin,q⟩:=h;refine⟨_,(zb (zL (zdg (zai (zH (zan) (by rfl) zv (by rfl) (za (pv 0) (za (zaS (v:=.ty "list") (by rfl) zfg (by rfl) rfl) zc)))))
 (zd (zm zbM))
 zu)
 (zb (ziK (i:=2) (zaj.zero (by rfl) (by decide+kernel) (by decide+kernel) (by decide+kernel) (by rfl)) rfl (zbG (pv 0)) (λ_ _ _=>zfU) (λ_ _ _=>(zF zcd hr (by omega) (by rfl) (za (pv 0) zc))) za7.nd rfl (Or.inl rfl) (by rfl))
 (zb (zaH PassesOwn.never rfl (zmd rfl zap (za zg (za (zH (zG) (by rfl) zP (by rfl) (za (pv 2) zc)) zc))) (zah (i:=3) za7.nd rfl (Or.inl rfl))
 (zd (zL (zB zkW (zt zN (pv 2) (zC zbf (pv 3) zg) (λ_ _=>rfl)) (zt zN (pv 2) (pv 3) (λ_ _=>rfl)) (zA _))
 (zd (zm zbM))
 zu)))
 (zd (zm (zax (ziG hr) (zgt (zaj.one (y:= "let") (j:=1) (c:=s.heap.objs.size+1) (by rfl) (by rfl) (by decide+kernel) (by decide+kernel) (by rfl) (by decide+kernel) (by rfl) (by decide+kernel) (by rfl) (by first | exact Or.inl rfl | exact Or.inr rfl) (by first | exact Or.inl rfl | exact Or.inr rfl)) rfl (zbG (pv 0)) (λ_ _ _=>zoU (zB (zjo (K:=K) rfl hr) (pv 0) (pv 1) (by rfl))) (λ_ _ _=>(pv 0))) (zag zc) (zA _))))))),?_⟩
 have hxl:=rx.len;refine⟨_,rfl,_,_,_,_,rfl,.lst ex,rfl,_,rfl,ifF rfl ?_⟩;refine⟨_,rfl,pp,rfl,⟨_,SqL.of ex⟩,λpz hpz=>?_⟩;refine zeq (n:=xs.length) (λi acc H'=>Same H H'/\H' pz=some (.lst acc)/\acc=((ts.take i).map zE).map V.int) ⟨zk (Same.refl H) hpz,zj,rfl⟩ ?_ ?_ ?_ ?_
 ·rintro i acc H' hi ⟨sm,ez,ea⟩;exact⟨xs,xs[i],SqL.of (sm _ _ ex),List.getElem?_eq_getElem hi⟩
 ·rintro acc H' ⟨sm,ez,ea⟩;exact⟨xs,SqL.of (sm _ _ ex),Jb _⟩
 ·rintro i acc H' y H'' hi ⟨sm,ez,ea⟩ ⟨z1,z2⟩;subst z1;have ey:=z2 xs (SqL.of (sm _ _ ex));have hit:i < ts.length:=by omega
  have g:=gd ts[i] (Jp hit);have gd':=g.dp;have gn:=g.nd;have ry:=(rx.at i y ts[i] ey (List.getElem?_eq_getElem hit)).keep (Same.tups sm);have la:acc.length=i:=by rw[ea,List.length_map,List.length_map,List.length_take];omega
  refine tt1 ⟨_,rfl,ts[i],y,rfl,ry,g.wf,by omega,by omega,λH3 s3=>⟨s3 _ _ ez,Jg (show acc.length < 1000000 by omega) (by decide+kernel),nxt hi ⟨zbN (λb o e=>s3 b o (sm b o e)) hpz,zj,?_⟩⟩⟩;rw[ea,take_snoc hit,List.map_append,List.map_append]
  rfl
 ·rintro acc H1 ⟨s1,ez,ea⟩;rw[hxl,List.take_length] at ea;have hal:acc.length=ts.length:=by rw[ea,List.length_map,List.length_map]
  refine⟨_,rfl,pz,_,rfl,.inl (SqL.of ez),1,_,rfl,⟨by decide,by decide,by omega,by omega⟩,?_⟩;refine zcw (lo:=1) (λi σ H'=>∃k3:Option V,σ=[some (.ref pp),some (.ref pl),some (.ref pz),k3]/\H'=H1) ⟨_,rfl,rfl⟩ ?_ ?_
  ·rintro i σ H' hi ⟨k3,rfl,rfl⟩;have h1:i+1 < ts.length:=by omega
   have hs:∀j (hj:j < ts.length),atI acc (j:Int)=some (.int (zE ts[j])):=λj hj=>by refine zaT ?_;rw[ea,List.getElem?_map,List.getElem?_map,List.getElem?_eq_getElem hj];rfl
   have lt:zE ts[i] < zE ts[i+1]:=by have:=List.pairwise_iff_getElem.mp up i (i+1) (by rw[List.length_map];omega) (by rw[List.length_map];omega) (JB i);rw[List.getElem_map,List.getElem_map] at this;exact this
   have i1:atI acc (1+(i:Int) - 1)=some (.int (zE ts[i])):=by rw[show(1:Int)+(i:Int) - 1=(i:Int) by omega];exact hs i (by omega)
   have i2:atI acc (1+(i:Int))=some (.int (zE ts[i+1])):=by rw[show(1:Int)+(i:Int)=((i+1:Nat):Int) by omega];exact hs (i+1) h1
   refine⟨_,rfl,_,rfl,_,_,rfl,rfl,pz,_,_,_,rfl,rfl,SqL.of ez,i1,_,rfl,_,rfl,pz,_,_,_,rfl,rfl,SqL.of ez,i2,_,_,rfl,rfl,_,rfl,ifF (Jd (by show¬zE ts[i+1]<=zE ts[i];omega)) ⟨_,rfl,rfl⟩⟩
  ·rintro σ H' ⟨k3,rfl,rfl⟩;have ex1:=s1 _ _ ex;have el1:=s1 _ _ el;refine⟨_,rfl,pp,rfl,⟨_,SqL.of ex1⟩,λpz2 hpz2=>?_⟩;refine zeq (n:=xs.length) (λi acc H2=>Same H' H2/\H2 pz2=some (.lst acc)/\acc=[]) ⟨zk (Same.refl H') hpz2,zj,rfl⟩ ?_ ?_ ?_ ?_
   ·rintro i acc H2 hi ⟨sm,_,_⟩;exact⟨xs,xs[i],SqL.of (sm _ _ ex1),List.getElem?_eq_getElem hi⟩
   ·rintro acc H2 ⟨sm,_,_⟩;exact⟨xs,SqL.of (sm _ _ ex1),Jb _⟩
   ·rintro i acc H2 y H3 hi ⟨sm,ez2,eacc⟩ ⟨z1,z2⟩;subst z1;have ey:=z2 xs (SqL.of (sm _ _ ex1));have hit:i < ts.length:=by omega
    have sm0:Same H H3:=λb o e=>sm b o (s1 b o e);have ry:=(rx.at i y ts[i] ey (List.getElem?_eq_getElem hit)).keep (Same.tups sm0);refine⟨_,rfl,_,rfl,pl,ws,ls,ts[i],rfl,SqL.of (sm _ _ el1),rl.keep (Same.tups sm0),ry,dl,_,rfl,?_⟩;have any:(ls.any λu=>eqT u ts[i])=true:=List.any_eq_true.mpr ⟨ts[i],hin _ (Jp hit),zaP _⟩;rw[any];exact ifF rfl (nxt hi ⟨sm,ez2,eacc⟩)
   ·rintro acc H2 ⟨sm,ez2,eacc⟩;subst eacc;refine⟨szl (show 0<=1000 by decide),λpe hpe=>?_⟩;have s3:=zk (o:=.lst []) (Same.refl H2) hpe;exact⟨pz2,pe,[],rfl,rfl,SqL.of (s3 _ _ ez2),SqL.of zj,q _ λb o e=>s3 b o (sm b o (s1 b o e))⟩
end
end Pv
namespace Pv
open PySem L2
open Tr
noncomputable abbrev zgo:Stmt:=top 38
theorem zhn:zr ["vault","root","low","high","pairs","begun","count","node"] ["vault","root","low","high"] (zh zgo):=L2.fsc (by decide+kernel)
noncomputable abbrev zc8:Stmt:=top 71
theorem zal:zr ["keeper","root","pairs","cell","way","key","other","kind","number","reader","many","told","unread"] ["keeper","root","pairs","cell","way"] (zh zc8):=L2.fsc (by decide+kernel)
theorem zlH {C x dx:Addr}{H:Hp}{Z:Hp->Prop}{E:XK}(hx:H x=none)(hdx:H dx=none)(n:dx≠x)(q:∀d H',Same H H'->H d=none->H' x=some (.ins C dx [("laid",.ref d)])->H' d=some (.dK [])->Z H'):
  zd7 C [.ref x] (upd (upd H dx (.own x)) x (.ins C dx [])) (λv H2=>v=.non/\Z H2) E:=by
 refine⟨x,dx,rfl,zj,λd hd=>⟨rfl,?_⟩⟩;have xd:x≠d:=λz=>by rw[<-z,zj] at hd;cases hd
 have dd:dx≠d:=λz=>by rw[<-z,zl n,zj] at hd;cases hd
 have hd0:H d=none:=by rw[zl (Ne.symm xd),zl (Ne.symm dd)] at hd;exact hd
 refine q d _ (λb o e=>?_) hd0 zj (by rw[zl (Ne.symm xd)];exact zj);have n1:=zo e hx;rw[zl n1,zl (zo e hd0),zl n1,zl (zo e hdx)];exact e
theorem zdS {R x dx kp:Addr}{H:Hp}{Z:Hp->Prop}{E:XK}(hx:H x=none)(hdx:H dx=none)(n:dx≠x)(q:∀dl dn H',Same H H'->H dl=none->H dn=none->dl≠dn->H' x=some (.ins R dx (rFs dl kp dn))->H' dl=some (.dK [])->H' dn=some (.dK [])->Z H'):
  zfG R [.ref x,.ref kp] (upd (upd H dx (.own x)) x (.ins R dx [])) (λv H2=>v=.non/\Z H2) E:=by
 refine⟨x,kp,dx,rfl,zj,λdl dn H' f hl hn ne e1 e2 e3=>⟨rfl,?_⟩⟩;have un:∀b,upd (upd H dx (.own x)) x (.ins R dx []) b=none->H b=none:=λb hb=>by
  have xb:b≠x:=λz=>by rw[z,zj] at hb;cases hb
  rw[zl xb] at hb;have db:b≠dx:=λz=>by rw[z,zj] at hb;cases hb
  rw[zl db] at hb;exact hb
 refine q dl dn H' (λb o e=>?_) (un _ hl) (un _ hn) ne e1 e2 e3;have n1:=zo e hx;exact f b o n1 (by rw[zl n1,zl (zo e hdx)];exact e)
theorem zeh {R C kp dk x dx dl dn:Addr}{H H':Hp}{cs:QF}(s:Same H H')(hl:H dl=none)(hn:H dn=none)(ne:dl≠dn)(e1:H' x=some (.ins R dx (rFs dl kp dn)))(e2:H' dl=some (.dK []))(e3:H' dn=some (.dK []))(vs:VS H C kp dk cs):VRd R C kp dk H' x [dl,dn] ⟨[],cs,[],900000⟩:=by obtain⟨kv,vo,_⟩:=vs.vo;have n1:dk≠dl:=zo vo.di hl;have n2:dk≠dn:=zo vo.di hn;exact⟨⟨dl,dn,[],[],rfl,⟨⟨dx,e1⟩,e2,e3⟩,.nil,.nil,ne,n1,n2⟩,vs.same s,GoodC.nil,GoodC.nil,λn t u h _=>(by cases h),λn t h=>(by cases h),by show 0+900000<=1000000;decide,by show 0+900000<=1000000;decide⟩
theorem zgp {H H1 H2:Hp}{D:QO}(s:Same H H1)(hD:∀d∈D,H d=none)(f:Frm D H1 H2):Same H H2:=λb o e=>f b o (λz=>by rw[hD b z] at e;cases e) (s b o e)
theorem zi6 {cs:QF}{ns:List Int}(g:GoodC cs)(h:∀n∈ns,n∈cs.map (·.1)):(zaI cs ns).map zE=ns/\(∀t∈zaI cs ns,Good t/\∃n,zD cs n=some t):=by
 induction ns with
 | nil=>exact⟨rfl,λt h=>by cases h⟩
 | cons n ns ih=>
  obtain⟨i1,i2⟩:=ih λm hm=>h m (Jl _ hm);obtain⟨t,et⟩:=zeK (h n List.mem_cons_self);obtain⟨g1,g2⟩:=g.dep et;have ew:zaI cs (n::ns)=t::zaI cs ns:=by unfold zaI;rw[List.map_cons,et];rfl
  rw[ew];refine⟨by rw[List.map_cons,i1,g2],λu hu=>?_⟩;rcases List.mem_cons.mp hu with rfl | hu
  ·exact⟨g1,n,et⟩
  ·exact i2 u hu
theorem ziZ {cs:QF}{ns:List Int}{l:Addr}{xs:QQ}{H:Hp}(g:GoodC cs)(hp:ns.Perm (cs.map (·.1)))(hs:ns.Pairwise (· <= ·))(el:H l=some (.lst xs))(r:RepL H (zaI cs ns) xs)(hl:cs.length<=900000):PapR H l (zaI cs ns)/\∀t∈zaI cs ns,∃n,zD cs n=some t:=by
 obtain⟨h1,h2⟩:=zi6 g λn hn=>hp.subset hn;refine⟨⟨⟨xs,el,r⟩,λt ht=>(h2 t ht).1,?_,?_⟩,λt ht=>(h2 t ht).2⟩
 ·rw[h1];have nd:ns.Nodup:=hp.nodup_iff.mpr g.nd;exact(hs.and nd).imp λh=>by obtain⟨a,b⟩:=h;omega
 ·unfold zaI;rw[List.length_map,hp.length_eq,List.length_map];exact hl
theorem zgg {cs:QF}{x:Th}:∀{T:Tr},TOk cs T->∀nd∈wayN x T,KeyT nd.w
 | nil,_,nd,h=>by cases h
 | node l k w r,tk,nd,h=>by
  have h':nd∈ndT l k w r::(if k=x then[] else if zf k x=true then wayN x r else wayN x l):=h;rcases List.mem_cons.mp h' with rfl | h'
  ·exact tk.kw.2
  ·by_cases e:k=x
   ·rw[if_pos e] at h';cases h'
   ·rw[if_neg e] at h';by_cases c:zf k x=true
    ·rw[if_pos c] at h';exact zgg tk.r nd h'
    ·rw[if_neg c] at h';exact zgg tk.l nd h'
theorem zgC {cs:QF}:∀{T:Tr} {i:Int},TOk cs T->dep (nthV T i)<=5
 | nil,_,_=>Nat.zero_le _
 | node l k w r,i,tk=>by
  unfold nthV;split
  ·exact Nat.zero_le _
  ·split
   ·have h1:=tk.kw.1.dp;have h2:=tk.kw.2.dp;show max (dep k) (max (dep w) 0)+1<=5;omega
   ·split
    ·exact zgC tk.l
    ·exact zgC tk.r
theorem zmC {cs:QF}{kd:Int}{T:Tr}{x y:Th}{i:Int}(tk:TOk cs T):dep (askV kd T x y i)<=50:=by
 unfold askV;split
 ·unfold endW;cases z:(wayN x T).getLast? with
  | none=>exact Nat.zero_le _
  | some nd=>
   have:=(zgg tk nd (List.mem_of_getLast? z)).dp;show dep (if nd.k=x then nd.w else .non)<=50;split
   ·omega
   ·exact Nat.zero_le _
 ·split
  ·exact Nat.zero_le _
  ·split
   ·exact Nat.zero_le _
   ·split
    ·exact Nat.zero_le _
    ·exact Jn (zgC tk) (by decide)
theorem zkG {α:Type}{VR:VRT}{CN CB CC a:Addr}{D:QO}{p:Pg α}{y:α}{s:Vst}{rp:Hp->α->V->Prop}{H:Hp}{Q:V->Hp->Prop}{E:XK}(e:p=.ret y)(h:OutQ VR a D rp H Q y s):Out VR CN CB CC a D p s rp H Q E:=by subst e;exact h
def zmI:Sp:=λvs H Q _=>∃(va vr vl vh:V) (lo hi:Th),vs=[va,vr,vl,vh]/\Rep H lo vl/\Rep H hi vh/\dep lo<=8/\zcM lo hi=true/\∀p H',Same H H'->H' p=some (.lst [])->Q (.ref p) H'
def zi0 (C CC:Addr):Sp:=λvs H Q E=>∃(a d pl:Addr) (s:Vst) (T:Tr) (c m:Int),vs=[.ref a,.int T.root,.ref pl,.int c,.int m]/\VK C H a [d] s/\TOk s.all T/\Srt T.ps/\T.cnt<=299/\PL H pl T.ps/\3000<=s.n/\Cl CC E/\
 ∀s' H',Frm [d] H H'->VK C H' a [d] s'->Go (λ_=>True) 3000 s s'->Q (.bl true) H'
theorem zim {VR:VRT}{CN CB CC a:Addr}{D:QO}{H:Hp}{E:XK}(cl:Cl CC E)(u t:Th)(s:Vst):OutE VR CN CB CC a D H E (.clash u t) s:=λx v1 v2 H' _ _ r1 r2 g1 g2 ne sn ex=>cl u t v1 v2 H' x r1 r2 g1 g2 ne sn ex
section
variable {P:Program}{w:World}{K:QA}{mg:QB}{base:Heap}{R C CC CN CB:Addr}
theorem zo3 (D:Dfn K mg "stretch" zgo ["vault","root","low","high"]) (zd0:Fn P w K mg base "is_empty" 21 ["low","high"] zeE):FnX P w K mg base "stretch" 22 ["vault","root","low","high"] zmI:=by
 refine D.okX (k:=21) zhn (λvs H Q E h=>?_) (λf cdv A outer s H vs Q E hr h=>?_)
 ·obtain⟨va,vr,vl,vh,lo,hi,rfl,_⟩:=h;rfl
 obtain⟨va,vr,vl,vh,lo,hi,rfl,rl,rh,dl,ee,q⟩:=h;refine⟨_,(zb (zq (i:=4) zhn.nd rfl (Or.inl rfl) (zag zc))
 (zb (zL (zai (zF zd0 hr (by omega) (by rfl) (za (pv 2) (za (pv 3) zc))))
 (zd (zm (pv 4)))
 zu)
 zlC)),?_⟩
 refine⟨szl (show 0<=1000 by decide),λpp hpp=>?_⟩;have s1:=zk (o:=.lst []) (Same.refl H) hpp;have e1:upd H pp (.lst []) pp=some (.lst []):=zj;generalize upd H pp (.lst [])=H1 at s1 e1;refine⟨_,rfl,_,rfl,lo,hi,vl,vh,rfl,rl.keep (Same.tups s1),rh.keep (Same.tups s1),dl,λH2 s2=>⟨_,rfl,?_⟩⟩;rw[ee];exact ifT rfl ⟨_,rfl,q pp H2 (λb o e=>s2 b o (s1 b o e)) (s2 _ _ e1)⟩
theorem zmf (D:Dfn K mg "_law_right" zc8 ["keeper","root","pairs","cell","way"]) (zdB:Fn P w K mg base "_law_key" 3 ["cell","way"] ziL) (za9:Fn P w K mg base "_law_mix" 1 ["cell","k"] zn8) (zeH:Mkr P w K mg base "Reader" R 2 ["self","keeper"] (zfG R)) (zjq:Mt P w K mg base CX0 C "things" 2 ["self"] (zjh C)) (zeI:Mt P w K mg base CX0 R "paper" 2 ["self"] (zhR R)) (c_C:Cls K C) (c_R:Cls K R)
  (zfA:FnX P w K mg base "_law_asked" 25 ["vault","root","kind","key","other","number"] (zi4 R C CN CB CC)) (zmk:Fn P w K mg base "_law_let" 23 ["keeper","root","kind","key","other","pairs","number"] (zpG C)) (zeJ:Fn P w K mg base "_law_paper_right" 14 ["paper","let"] zmJ) (zml:FnX P w K mg base "stretch" 22 ["vault","root","low","high"] zmI) (zfh:∀i,FnX P w K mg base "counted" 24 ["vault","root","low","high"] (zbT (VRi R C i) CN CB CC)) (zoe:∀i,FnX P w K mg base "nth" 6 ["vault","root","number"] (zgk (VRi R C i) CN CB CC)) (zP:mg "len" =none):
  FnX P w K mg base "_law_right" 26 ["keeper","root","pairs","cell","way"] (zi0 C CC):=by
 refine D.okX (k:=25) zal (λvs H Q E h=>?_) (λf cdv A outer s H vs Q E hr h=>?_)
 ·obtain⟨a,d,pl,s,T,c,m,rfl,_⟩:=h;rfl
 obtain⟨a,d,pl,s,T,c,m,rfl,vk,tk,st,c9,hpl,hn,cl,q⟩:=h;have zdA:=zfh (some (a,d));have zlj:=zoe (some (a,d));refine⟨_,(zb (zq (i:=5) zal.nd rfl (Or.inl rfl) (zF zdB hr (by omega) (by rfl) (za (zC zbO (pv 3) zg) (za (pv 4) zc))))
 (zb (zq (i:=6) zal.nd rfl (Or.inl rfl) (zF zdB hr (by omega) (by rfl) (za (zC zar (zC zbO (pv 3) zg) zg) (za (pv 4) zc))))
 (zb (zL (PW.pt (zin (zB (zc0 hr) (pv 2) (zag zc) (zA _)) (zfO (zB zmW (zC zaO (zF za9 hr (by omega) (by rfl) (za (pv 3) (za zg zc))) zg) zg (zA _)))))
 (zd (zq (i:=5) zal.nd rfl (Or.inl rfl) (zt zy (zt zN (pv 2) (zC zaO (zF za9 hr (by omega) (by rfl) (za (pv 3) (za zg zc))) (zH (zG) (by rfl) zP (by rfl) (za (pv 2) zc))) (λ_ _=>rfl)) zg (λ_ _=>rfl))))
 zu)
 (zb (zq (i:=7) zal.nd rfl (Or.inl rfl) (zC zaO (zF za9 hr (by omega) (by rfl) (za (pv 3) (za zg zc))) zg))
 (zb (zq (i:=8) zal.nd rfl (Or.inl rfl) (zC zaO (zF za9 hr (by omega) (by rfl) (za (pv 3) (za zg zc))) (zC zar (zH (zG) (by rfl) zP (by rfl) (za (pv 2) zc)) zg)))
 (zb (zq (i:=9) zal.nd rfl (Or.inl rfl) (zjZ zeH hr (by omega) (by rfl) (za (pv 0) zc)))
 (zb (zq (i:=10) zal.nd rfl (Or.inl rfl) (zH (zG) (by rfl) zP (by rfl) (za (ze8 (pv 0) c_C zjq hr (by omega) zcx) zc)))
 (zb (zq (i:=11) zal.nd rfl (Or.inl rfl) (zW zfA hr (by omega) (by rfl) zK (za (pv 9) (za (pv 1) (za (pv 7) (za (pv 5) (za (pv 6) (za (pv 8) zc))))))))
 (zb (zL (zB zcr (zH (zG) (by rfl) zP (by rfl) (za (ze8 (pv 0) c_C zjq hr (by omega) zcx) zc)) (pv 10) (zA _))
 (zd (zm zbM))
 zu)
 (zb (zL (zdg (zai (zF zeJ hr (by omega) (by rfl) (za (ze8 (pv 9) c_R zeI hr (by omega) zcx) (za (zF zmk hr (by omega) (by rfl) (za (pv 0) (za (pv 1) (za (pv 7) (za (pv 5) (za (pv 6) (za (pv 2) (za (pv 8) zc)))))))) zc)))))
 (zd (zm zbM))
 zu)
 (zb (zq (i:=12) zal.nd rfl (Or.inl rfl) (zjZ zeH hr (by omega) (by rfl) (za (pv 0) zc)))
 (zb (zL (PW.pt (zf9 (zB (zc0 hr) (zW zml hr (by omega) (by rfl) zK (za (pv 12) (za (pv 1) (za (pv 5) (za (pv 5) zc))))) (zag zc) (zA _)) (zf9 (zB zcr (zW zdA hr (by omega) (by rfl) zK (za (pv 12) (za (pv 1) (za (pv 5) (za (pv 5) zc))))) zg (zA _)) (zeO (zB (zc0 hr) (ze8 (pv 12) c_R zeI hr (by omega) zcx) (zag zc) (zA _))))))
 (zd (zm zbM))
 zu)
 (zb (zL (PW.pt (zf9 (zB zfN (zW zlj hr (by omega) (by rfl) zK (za (pv 12) (za (pv 1) (za (zC zbf (zdc zbK zg) (pv 8)) zc)))) zaC (zA _)) (zeO (zB (zc0 hr) (ze8 (pv 12) c_R zeI hr (by omega) zcx) (zag zc) (zA _)))))
 (zd (zm zbM))
 zu)
 (zd (zm (zax (zdr hr) (pv 11) (zW zfA hr (by omega) (by rfl) zK (za (pv 0) (za (pv 1) (za (pv 7) (za (pv 5) (za (pv 6) (za (pv 8) zc))))))) (zA _))))))))))))))))),?_⟩
 obtain⟨xs,ex,rxs⟩:=hpl.ex;have hxl:xs.length=T.ps.length:=by rw[rxs.len,List.length_map]
 refine⟨_,rfl,_,_,rfl,rfl,⟨by decide,by decide⟩,_,rfl,_,_,rfl,λx0 vx0 H1 s1 rx0 kx0=>?_⟩;refine⟨_,rfl,_,_,rfl,rfl,⟨by decide,by decide⟩,_,_,rfl,rfl,_,rfl,_,_,rfl,λy vy H2 s2 ry ky=>?_⟩;have s02:Same H H2:=λb o e=>s2 b o (s1 b o e);have rx2:=rx0.keep (Same.tups s2);dsimp only[zfp];refine ze0 (fun σ H3=>∃(x:Th) (vx:V),σ=[some (.ref a),some (.int T.root),some (.ref pl),some (.int c),some (.int m),some vx,some vy,none,none,none,none,none,none]/\Same H2 H3/\Rep H3 x vx/\KeyT x) (λN kN=>?_) ?_
 ·refine⟨_,rfl,szl (show 0<=1000 by decide),λpe hpe=>?_⟩;have s3:=zk (o:=.lst []) (Same.refl H2) hpe;have ee:upd H2 pe (.lst []) pe=some (.lst []):=zj;generalize upd H2 pe (.lst [])=H3 at s3 ee;have ex3:=s3 _ _ (s02 _ _ ex);have out:N _ H3:=kN _ H3 ⟨x0,vx0,rfl,s3,rx2.keep (Same.tups s3),kx0⟩;refine⟨pl,pe,xs,rfl,rfl,SqL.of ex3,SqL.of ee,_,rfl,?_⟩;cases zx:xs with
  | nil=>exact ifF rfl (ifF rfl out)
  | cons x' xs'=>
   rw[<-zx];have hx1:0 < xs.length:=by rw[zx];exact JF _
   refine ifT (by rw[zx];rfl) ⟨_,rfl,_,_,rfl,by decide,by decide,λr r0 r1=>⟨_,_,rfl,rfl,(show(0:Int) < 3 by decide),_,_,rfl,rfl,?_⟩⟩;refine⟨_,rfl,?_⟩;refine ifB (λ_=>?_) (λ_=>out);refine⟨_,rfl,_,rfl,_,_,rfl,by decide,by decide,λr2 r20 r21=>⟨_,rfl,pl,_,rfl,.inl (SqL.of ex3),?_⟩⟩;have n0:=Jx r2 (show((xs.length:Nat):Int)≠0 by omega);have n1:=Jw r2 (show(0:Int) < ((xs.length:Nat):Int) by omega);obtain⟨j,hj⟩:∃j:Nat,r2 % ((xs.length:Nat):Int)=(j:Int):=⟨(r2 % ((xs.length:Nat):Int)).toNat,by omega⟩;have hjl:j < xs.length:=by omega
   have hjT:j < T.ps.length:=by omega
   have ep:T.ps[j]? =some (T.ps[j]):=List.getElem?_eq_getElem hjT;have hv:xs[j]? =some (xs[j]'hjl):=List.getElem?_eq_getElem hjl;have rp:=(rxs.at j _ _ hv (by rw[List.getElem?_map,ep];rfl)).keep (Same.tups λb o e=>s3 b o (s02 b o e));obtain⟨kk,_⟩:=tk.ky _ (Jp hjT);generalize T.ps[j]=pr at rp kk;obtain⟨p,vk,vw,ev,ea,rk,_⟩:=zdN rp;exact⟨_,_,rfl,rfl,(show(0:Int) < ((xs.length:Nat):Int) by omega),pl,_,_,_,rfl,rfl,SqL.of ex3,by rw[hj,zaT hv,ev],p,_,_,_,rfl,rfl,SqT.of ea,rfl,kN _ H3 ⟨pr.1,vk,rfl,s3,rk,kk⟩⟩
 rintro σ H3 ⟨x,vx,rfl,s3,rx,kx⟩;have s03:Same H H3:=λb o e=>s3 b o (s02 b o e);have ex3:=s03 _ _ ex;have ry3:=ry.keep (Same.tups s3);refine ze0 (fun σ H4=>∃kd:Int,0<=kd/\kd < 5/\σ=[some (.ref a),some (.int T.root),some (.ref pl),some (.int c),some (.int m),some vx,some vy,some (.int kd),none,none,none,none,none]/\H4=H3) (λN kN=>?_) ?_
 ·exact⟨_,rfl,_,_,rfl,by decide,by decide,λr r0 r1=>⟨_,_,rfl,rfl,(show(0:Int) < 5 by decide),kN _ _ ⟨r % 5,Jx r (by decide),Jw r (by decide),rfl,rfl⟩⟩⟩
 rintro σ H4 ⟨kd,k0,k5,rfl,rfl⟩;refine ze0 (fun σ H5=>∃i:Int,0<=i/\σ=[some (.ref a),some (.int T.root),some (.ref pl),some (.int c),some (.int m),some vx,some vy,some (.int kd),some (.int i),none,none,none,none]/\H5=H4) (λN kN=>?_) ?_
 ·exact⟨_,rfl,_,_,rfl,by decide,by decide,λr2 r20 r21=>⟨_,rfl,pl,_,rfl,.inl (SqL.of ex3),_,_,rfl,rfl,_,_,rfl,rfl,(show(0:Int) < ((xs.length:Nat):Int)+2 by omega),kN _ _ ⟨r2 % (((xs.length:Nat):Int)+2),Jx r2 (by omega),rfl,rfl⟩⟩⟩
 rintro σ H5 ⟨i,i0,rfl,rfl⟩;have vk3:=(vi_K C).same vk s03;obtain⟨d',ed',vs0⟩:=vk.vs;cases ed';have kp0:=vk.kp;have eall:s.all=s.own:=by unfold Vst.all;rw[kp0,List.append_nil]
 have tk0:=tk;rw[eall] at tk0;have vs3:=vs0.same s03;have hol:=vk.rm
 refine⟨_,rfl,λr dxr hr0 hdr ndr=>?_⟩;refine zdS hr0 hdr ndr λdl dn H6 s6 hdl hdn nel er el en=>?_;have vr6:=zeh (R:=R) (C:=C) s6 hdl hdn nel er el en vs3;have s06:Same H H6:=λb o e=>s6 b o (s03 b o e)
 have things:∀{H':Hp} {cs:QF} {ns:List Int} {ws:QQ} {H'':Hp},ns.Perm (cs.map (·.1))->RepL H'' (zaI cs ns) ws->ws.length=cs.length:=λ{H' cs ns ws H''} hp rl=>by rw[rl.len];unfold zaI;rw[List.length_map,hp.length_eq,List.length_map]
 have vs6:VS H6 C a d s.own:=vr6.vs;obtain⟨kv6,vo6,dr6⟩:=vs6.vo;obtain⟨⟨dy,fs,eo6,fl6⟩,ed6⟩:=id vo6;refine⟨_,rfl,a,dy,fs,rfl,eo6,fl6.n4,a,d,kv6,s.own,rfl,vo6,dr6,by omega,λl1 ns1 ws1 H7 s7 hl1 hp1 hs1 el1 rl1=>⟨l1,ws1,rfl,.inl (SqL.of el1),?_⟩⟩;have hm1:=things (H':=H7) hp1 rl1;rw[hm1];have s07:Same H H7:=λb o e=>s7 b o (s06 b o e);have vr7:=(vi_R R C a d).same vr6 s7;have rx7:=rx.keep (Same.tups λb o e=>s7 b o (s6 b o e));have ry7:=ry3.keep (Same.tups λb o e=>s7 b o (s6 b o e));have fD:∀b∈ [dl,dn],H b=none:=λb hb=>by
  simp only[List.mem_cons,List.not_mem_nil,or_false] at hb;rcases hb with rfl | rfl
  ·exact s03.free hdl
  ·exact s03.free hdn
 refine⟨_,rfl,_,rfl,_,rfl,_,rfl,_,rfl,_,rfl,some (a,d),r,[dl,dn],_,kd,T.root,x,y,vx,vy,i,rfl,vr7,rx7,kx,ry7,ky,wp_ask (A:=λt=>t∈(zg9 kd T x y i).map Tr.thing) (zim cl) (T:=T) (show TOk ([]++s.own) T from tk0) c9 kx ky i0 (show 3000<=900000 by decide) (λnd hd=>zo1 k0 k5 i0 st hd) λs8 g8 v8 H8 f8 vr8 rv8=>?_⟩;have vr8:VRd R C a d H8 r [dl,dn] s8:=vr8;have s08:Same H H8:=zgp s07 fD f8;have kp8:s8.kp=s.own:=g8.kp;obtain⟨dl',dn',kvs8,nvs8,eD,ro8,d18,d28,_⟩:=vr8.ro;cases eD;have vs8:=vr8.vs;rw[kp8] at vs8;obtain⟨kv8,vo8,dr8⟩:=vs8.vo;obtain⟨⟨dy8,fs8,eo8,fl8⟩,ed8⟩:=id vo8;refine⟨_,rfl,a,dy8,fs8,rfl,eo8,fl8.n4,a,d,kv8,s.own,rfl,vo8,dr8,by omega,λl2 ns2 ws2 H9 s9 hl2 hp2 hs2 el2 rl2=>⟨l2,ws2,rfl,.inl (SqL.of el2),_,rfl,rfl,_,rfl,?_⟩⟩;have hm2:=things (H':=H9) hp2 rl2;rw[hm2,zaN,decide_eq_true rfl];refine ifF rfl ?_;have s09:Same H H9:=λb o e=>s9 b o (s08 b o e);have ro9:=ro8.keep s9;obtain⟨⟨dxr9,er9⟩,_,_⟩:=id ro9;have rn8:=vr8.r2;have gn8:900000<=s8.n+3000:=g8.n;refine⟨_,rfl,r,dxr9,_,rfl,er9,(zfu dl a dn).n5,r,dl,a,dn,kvs8,nvs8,s8.nt,rfl,ro9,d28.keep (Same.tups s9),by omega,λlp nsp wsp H10 s10 hlp hpp hsp elp rlp=>?_⟩;have s8a:Same H8 H10:=λb o e=>s10 b o (s9 b o e);have s0a:Same H H10:=λb o e=>s8a b o (s08 b o e);have t5a:Tups H5 H10:=(Same.tups λb o e=>s7 b o (s6 b o e)).trans (((vi_R R C a d).tups vr7 f8).trans (Same.tups s8a));have rxa:=rx.keep t5a;have rya:=ry3.keep t5a;refine⟨_,rfl,_,rfl,_,rfl,_,rfl,_,rfl,_,rfl,_,rfl,a,d,pl,s.own,T,x,y,vx,vy,kd,i,rfl,vs8.same s8a,tk0,rxa,kx,rya,ky,hpl.same s0a,i0,λpL H11 s11 tl=>?_⟩;obtain⟨⟨wsL,eL,rL⟩,okL⟩:=tl;obtain⟨pap,pin⟩:=ziZ vr8.g2 hpp hsp elp rlp (by omega);obtain⟨⟨xsp,exp,rxp⟩,gdp,upp,lnp⟩:=pap;refine⟨lp,pL,zaI s8.nt nsp,(zg9 kd T x y i).map Tr.thing,wsL,rfl,⟨⟨xsp,s11 _ _ exp,rxp.keep (Same.tups s11)⟩,gdp,upp,lnp⟩,eL,rL,λu hu=>?_,λt ht=>?_,λH12 s12=>⟨_,rfl,ifF rfl ?_⟩⟩
 ·obtain⟨S,hS,rfl⟩:=List.mem_map.mp hu;obtain⟨nn,tkS⟩:=okL S hS;cases S with
  | nil=>exact Ji rfl nn
  | node l k wo r'=>have:=(zbt tkS.kw.1 tkS.kw.2 tkS.ct).2.dp;omega
 ·obtain⟨n,en⟩:=pin t ht;rcases g8.nt n t en with h | h
  ·cases h
  ·exact h
 have s10c:Same H10 H12:=λb o e=>s12 b o (s11 b o e);have s0c:Same H H12:=λb o e=>s10c b o (s0a b o e);have vs12:=vs0.same s0c;have t5c:Tups H5 H12:=t5a.trans (Same.tups s10c);have rv12:Rep H12 (askV kd T x y i) v8:=rv8.keep (Same.tups λb o e=>s10c b o (s8a b o e));have rxc:=rx.keep t5c;have ryc:=ry3.keep t5c;clear t5a rxa rya;refine⟨_,rfl,λu dxu hu0 hdu ndu=>?_⟩;refine zdS hu0 hdu ndu λdu dv H13 s13 hdl2 hdn2 nel2 er2 el2 en2=>?_;have vr13:=zeh (R:=R) (C:=C) s13 hdl2 hdn2 nel2 er2 el2 en2 vs12;have s0d:Same H H13:=λb o e=>s13 b o (s0c b o e);have rxd:=rxc.keep (Same.tups s13);have fD2:∀b∈ [du,dv],H b=none:=λb hb=>by
  simp only[List.mem_cons,List.not_mem_nil,or_false] at hb;rcases hb with rfl | rfl
  ·exact s0c.free hdl2
  ·exact s0c.free hdn2
 have xd:=kx.dp;have emp:zcM x x=true:=by unfold zcM;rw[Jd kx.ne,zT];rfl
 have none:∀{H':Hp} {s':Vst},VRd R C a d H' u [du,dv] s'->s'.nt=[]->∃dxu' nvs kvs,H' u=some (.ins R dxu' (rFs du a dv))/\ROk H' R u du a dv kvs nvs/\DRep H' [] nvs:=λ{H' s'} vr e=>by obtain⟨dl',dn',kvs,nvs,eD,ro,d1,d2,_⟩:=vr.ro;cases eD;rw[e] at d2;obtain⟨⟨dxu',eu⟩,_,_⟩:=id ro;exact⟨dxu',nvs,kvs,eu,ro,d2⟩
 have nil:∀{H' H'':Hp} {ns:List Int} {ws:QQ},ns.Perm (([]:QF).map (·.1))->RepL H'' (zaI [] ns) ws->ws=[]:=λ{H' H'' ns ws} hp rl=>by have:ns=[]:=List.Perm.eq_nil hp;subst this;cases rl;rfl
 refine⟨_,rfl,_,rfl,_,rfl,_,rfl,_,_,vx,vx,x,x,rfl,rxd,rxd,by omega,emp,λp14 H14 s14 e14=>⟨szl (show 0<=1000 by decide),λpe hpe=>?_⟩⟩;have s15:=zk (o:=.lst []) (Same.refl H14) hpe;have ee:upd H14 pe (.lst []) pe=some (.lst []):=zj;generalize upd H14 pe (.lst [])=H15 at s15 ee;have s1f:Same H13 H15:=λb o e=>s15 b o (s14 b o e);have rxf:=rxd.keep (Same.tups s1f);have vr15:=(vi_R R C a d).same vr13 s1f;refine⟨p14,pe,[],rfl,rfl,SqL.of (s15 _ _ e14),SqL.of ee,_,rfl,ifF rfl ?_⟩;refine⟨_,rfl,_,rfl,_,rfl,_,rfl,u,[du,dv],_,T.root,x,x,vx,vx,rfl,vr15,rxf,rxf,by omega,by omega,zkG (show zcq T.root x x=.ret 0 from if_pos emp) λv16 H16 f16 vr16 ev16=>?_⟩;have ev16':v16=.int 0:=ev16;subst ev16';have vr16:VRd R C a d H16 u [du,dv] _:=vr16;refine⟨rfl,_,rfl,ifF rfl ?_⟩;obtain⟨dxu1,nvs1,kvs1,eu1,ro1,dn1⟩:=none vr16 rfl;refine⟨_,rfl,u,dxu1,_,rfl,eu1,(zfu du a dv).n5,u,du,a,dv,kvs1,nvs1,[],rfl,ro1,dn1,by decide,λl17 ns17 ws17 H17 s17 hl17 hp17 hs17 el17 rl17=>⟨szl (show 0<=1000 by decide),λpe2 hpe2=>?_⟩⟩;have w17:=nil (H':=H) hp17 rl17;subst w17;have s18:=zk (o:=.lst []) (Same.refl H17) hpe2;have ee2:upd H17 pe2 (.lst []) pe2=some (.lst []):=zj;generalize upd H17 pe2 (.lst [])=H18 at s18 ee2;refine⟨l17,pe2,[],rfl,rfl,SqL.of (s18 _ _ el17),SqL.of ee2,_,rfl,ifF rfl ?_⟩;have s1i:Same H16 H18:=λb o e=>s18 b o (s17 b o e);have vr18:=(vi_R R C a d).same vr16 s1i;refine⟨_,rfl,_,rfl,_,rfl,_,rfl,_,_,rfl,rfl,u,[du,dv],_,T.root,_,rfl,vr18,zkG (show nthQ T.root (-1 - i)=.ret .non from if_pos (by omega)) λv19 H19 f19 vr19 rv19=>?_⟩;have rv19':Rep H19 .non v19:=rv19;cases rv19';have vr19:VRd R C a d H19 u [du,dv] _:=vr19;refine⟨rfl,_,rfl,ifF rfl ?_⟩;obtain⟨dxu2,nvs2,kvs2,eu2,ro2,dn2⟩:=none vr19 rfl;refine⟨_,rfl,u,dxu2,_,rfl,eu2,(zfu du a dv).n5,u,du,a,dv,kvs2,nvs2,[],rfl,ro2,dn2,by decide,λl20 ns20 ws20 H20 s20 hl20 hp20 hs20 el20 rl20=>⟨szl (show 0<=1000 by decide),λpe3 hpe3=>?_⟩⟩;have w20:=nil (H':=H) hp20 rl20;subst w20;have s21:=zk (o:=.lst []) (Same.refl H20) hpe3;have ee3:upd H20 pe3 (.lst []) pe3=some (.lst []):=zj;generalize upd H20 pe3 (.lst [])=H21 at s21 ee3;refine⟨l20,pe3,[],rfl,rfl,SqL.of (s21 _ _ el20),SqL.of ee3,_,rfl,ifF rfl ?_⟩;have s0f:Same H H15:=λb o e=>s1f b o (s0d b o e);have s0g:Same H H16:=zgp s0f fD2 f16;have s0i:Same H H18:=λb o e=>s1i b o (s0g b o e);have s0j:Same H H19:=zgp s0i fD2 f19;have s0l:Same H H21:=λb o e=>s21 b o (s20 b o (s0j b o e));have tcl:Tups H12 H21:=(Same.tups λb o e=>s1f b o (s13 b o e)).trans (((vi_R R C a d).tups vr15 f16).trans ((Same.tups s1i).trans (((vi_R R C a d).tups vr18 f19).trans (Same.tups λb o e=>s21 b o (s20 b o e)))));have vkl:=(vi_K C).same vk s0l;refine⟨_,rfl,_,rfl,_,rfl,_,rfl,_,rfl,_,rfl,_,rfl,Option.none,a,[d],s,kd,T.root,x,y,vx,vy,i,rfl,vkl,rxc.keep tcl,kx,ryc.keep tcl,ky,wp_ask (A:=λ_=>True) (zim cl) tk c9 kx ky i0 hn (λ_ _=>trivial) λs' g' v' H' f' vk' rv'=>?_⟩;have vk':VK C H' a [d] s':=vk';refine⟨askV kd T x y i,askV kd T x y i,(rv12.keep tcl).keep ((vi_K C).tups vkl f'),rv',zmC tk,?_⟩;rw[zaP];exact q s' H' ((Frm.of s0l).trans f') vk' g'
end
end Pv
namespace Pv
open PySem L2
open Tr
noncomputable abbrev zcR:Stmt:=top 72
theorem zV:zr ["script","way","keeper","root","pairs","cell","key","worth"] ["script"] (zh zcR):=L2.fsc (by decide+kernel)
theorem SqL.keepS {K:QA}{H H':Hp}{a:Addr}{xs:QQ}(h:SqL K H a xs)(s:Same H H'):SqL K H' a xs:=by
 rcases h with h | h
 ·rcases h with h | ⟨o,h⟩
  ·exact .inl (.inl (s _ _ h))
  ·exact .inl (.inr ⟨o,s _ _ h⟩)
 ·exact .inr h
theorem SqL.vr {K:QA}{C:Addr}{VR:VRT}(I:VI C VR){H H':Hp}{a b:Addr}{D:QO}{s:Vst}{xs:QQ}(h:SqL K H b xs)(v:VR H a D s)(f:Frm D H H'):SqL K H' b xs:=by
 rcases h with h | h
 ·rcases h with h | ⟨o,h⟩
  ·exact .inl (.inl (f _ _ (I.not v h (by intro kv z;cases z)) h))
  ·exact .inl (.inr ⟨o,f _ _ (I.not v h (by intro kv z;cases z)) h⟩)
 ·exact .inr h
theorem znv (ns:List Int)(lo hi:Option Int):∃ms:List Int,cutV (ns.map V.int) lo hi=ms.map V.int/\ms.length<=ns.length:=by
 refine⟨(ns.drop (HT.sIx ns.length 0 lo)).take (HT.sIx ns.length ns.length hi - HT.sIx ns.length 0 lo),?_,?_⟩
 ·unfold cutV;rw[List.length_map,List.map_take,List.map_drop]
 ·rw[List.length_take,List.length_drop];omega
theorem PL.vr {C:Addr}{VR:VRT}(I:VI C VR){H H':Hp}{a pl:Addr}{D:QO}{s:Vst}{ps:QH}(p:PL H pl ps)(v:VR H a D s)(f:Frm D H H'):PL H' pl ps:=by obtain⟨xs,e,r⟩:=p.ex;exact⟨xs,I.lst v f e,r.keep (I.tups v f)⟩
def zjd (K:QA)(CC:Addr):Sp:=λvs H Q E=>∃(a:Addr) (ns:List Int),vs=[.ref a]/\SqL K H a (ns.map V.int)/\ns.length<=63/\(∀H',Q (.bl true) H')/\Cl CC E
section
variable {P:Program}{w:World}{K:QA}{mg:QB}{base:Heap}{R C CC CN CB:Addr}
theorem zl9 (D:Dfn K mg "_law_walked" zcR ["script"]) (zg5:Fn P w K mg base "_law_cell_at" 1 ["script","k"] (zm7 K)) (zdB:Fn P w K mg base "_law_key" 3 ["cell","way"] ziL) (zjr:Fn P w K mg base "_law_worth" 3 ["cell","way"] ziL)
  (zof:Mkr P w K mg base "Keeper" C 1 ["self"] (zd7 C)) (zeH:Mkr P w K mg base "Reader" R 2 ["self","keeper"] (zfG R)) (zeI:Mt P w K mg base CX0 R "paper" 2 ["self"] (zhR R)) (c_R:Cls K R) (zli:FnX P w K mg base "put" 23 ["vault","root","key","worth"] (zgl (VK C) CN CB CC)) (ziv:Fn P w K mg base "_law_put_in" 12 ["pairs","key","worth"] zk3) (zjs:FnX P w K mg base "_law_right" 26 ["keeper","root","pairs","cell","way"] (zi0 C CC)):FnX P w K mg base "_law_walked" 27 ["script"] (zjd K CC):=by
 refine D.okX (k:=26) zV (λvs H Q E h=>?_) (λf cdv A outer s H vs Q E hr h=>?_)
 ·obtain⟨a,ns,rfl,_⟩:=h;rfl
 obtain⟨a,ns,rfl,hS,h63,q,cl⟩:=h;refine⟨_,(zb (zq (i:=1) zV.nd rfl (Or.inl rfl) (zC zaO (zF zg5 hr (by omega) (by rfl) (za (pv 0) (za zg zc))) zg))
 (zb (zq (i:=2) zV.nd rfl (Or.inl rfl) (zoI zof hr (by omega) (by rfl)))
 (zb (zq (i:=3) zV.nd rfl (Or.inl rfl) zg)
 (zb (zq (i:=4) zV.nd rfl (Or.inl rfl) (zag zc))
 (zb (zaH PassesOwn.leaving rfl (zbG (zaM zbq (pv 0) (zaK zg) (zaK zg))) (zah (i:=5) zV.nd rfl (Or.inl rfl))
 (zb (zq (i:=6) zV.nd rfl (Or.inl rfl) (zF zdB hr (by omega) (by rfl) (za (pv 5) (za (pv 1) zc))))
 (zb (zq (i:=7) zV.nd rfl (Or.inl rfl) (zF zjr hr (by omega) (by rfl) (za (zC zbO (pv 5) zg) (za (pv 1) zc))))
 (zb (zq (i:=3) zV.nd rfl (Or.inl rfl) (zW zli hr (by omega) (by rfl) zK (za (pv 2) (za (pv 3) (za (pv 6) (za (pv 7) zc))))))
 (zd (zq (i:=4) zV.nd rfl (Or.inl rfl) (zF ziv hr (by omega) (by rfl) (za (pv 4) (za (pv 6) (za (pv 7) zc))))))))))
 (zb (zaH PassesOwn.leaving rfl (zbG (zC zbJ (zag (za zg zc)) (zaM zbq (pv 0) (zaK zg) (zaK zg)))) (zah (i:=5) zV.nd rfl (Or.inl rfl))
 (zd (zL (zdg (zai (zW zjs hr (by omega) (by rfl) zK (za (pv 2) (za (pv 3) (za (pv 4) (za (pv 5) (za (pv 1) zc))))))))
 (zd (zm zbM))
 zu)))
 (zd (zm (zax (ziG hr) (ze8 (zjZ zeH hr (by omega) (by rfl) (za (pv 2) zc)) c_R zeI hr (by omega) zcx) (zag zc) (zA _)))))))))),?_⟩
 refine⟨_,rfl,a,ns,0,rfl,hS,JE 0,λc0=>?_⟩;refine⟨_,_,rfl,rfl,(show(0:Int) < 2 by decide),?_⟩;intro x dx hx hdx ndx;refine zlH hx hdx ndx λd H1 s1 hd ex ed=>?_;refine⟨szl (show 0<=1000 by decide),λpp hpp=>?_⟩;have s2:=zk (o:=.lst []) (Same.refl H1) hpp;have epp:upd H1 pp (.lst []) pp=some (.lst []):=zj;generalize upd H1 pp (.lst [])=H2 at s2 epp;have vs2:VS H2 C x d []:=⟨⟨[],⟨⟨dx,_,s2 _ _ ex,zrd d⟩,s2 _ _ ed⟩,.nil⟩,GoodC.nil⟩;have vk2:VK C H2 x [d] ⟨[],[],[],900000⟩:=⟨⟨d,rfl,vs2⟩,rfl,by show 0+900000<=1000000;decide⟩;have hS2:=Pv.SqL.keepS hS (λb o e=>s2 b o (s1 b o e));obtain⟨ms,ems,hms⟩:=znv ns (some 1) (some 63);refine⟨_,rfl,_,rfl,_,rfl,a,_,rfl,hS2,λpc hpc=>?_⟩;rw[ems];have s3:=zk (o:=.lst (ms.map V.int)) (Same.refl H2) hpc;have epc:upd H2 pc (.lst (ms.map V.int)) pc=some (.lst (ms.map V.int)):=zj;generalize upd H2 pc (.lst (ms.map V.int))=H3 at s3 epc;refine⟨pc,rfl,⟨_,SqL.of epc⟩,?_⟩;have hS3:=Pv.SqL.keepS hS2 s3;refine zc4 (xs:=ms.map V.int) (λi σ H'=>∃(T:Tr) (st:Vst) (pl:Addr) (k5 k6 k7:Option V),σ=[some (.ref a),some (.int (c0 % 2)),some (.ref x),some (.int T.root),some (.ref pl),k5,k6,k7]/\VK C H' x [d] st/\TOk st.all T/\Srt T.ps/\PL H' pl T.ps/\T.cnt<=i/\900000<=st.n+1000 * i/\H' pc=some (.lst (ms.map V.int))/\SqL K H' a (ns.map V.int))
  ⟨Tr.nil,_,pp,_,_,_,rfl,(vi_K C).same vk2 s3,TOk.nil,List.Pairwise.nil,⟨[],s3 _ _ epp,.nil⟩,Jb _,Jb _,epc,hS3⟩ ?_ ?_ ?_
 ·rintro i σ H' _ ⟨T,st,pl,k5,k6,k7,rfl,vs,tk,so,hpl,hc,hl,ep,_⟩;exact SqL.of ep
 ·rintro i y σ H4 hy ⟨T,st,pl,k5,k6,k7,rfl,vs,tk,so,hpl,hc,hl,epc4,hS4⟩;have hil:i < ms.length:=by have:=(List.getElem?_eq_some_iff.mp hy).1;rwa[List.length_map] at this
  have ey:y=.int ms[i]:=by rw[List.getElem?_map,List.getElem?_eq_getElem hil] at hy;exact(Option.some.inj hy).symm
  subst ey;refine⟨_,rfl,_,rfl,_,_,rfl,λt v H5 s5 rt kt=>?_⟩;refine⟨_,rfl,_,_,rfl,rfl,⟨by decide,by decide⟩,_,rfl,_,_,rfl,λu v' H6 s6 ru ku=>?_⟩;have s46:Same H4 H6:=λb o e=>s6 b o (s5 b o e);have vs6:=(vi_K C).same vs s46;have rt6:=rt.keep (Same.tups s6);refine⟨_,rfl,_,rfl,_,rfl,_,rfl,x,[d],st,T.root,t,u,v,v',rfl,vs6,rt6,kt.good,ru,zmK (A:=λ_=>True) (zim cl) tk (by omega) kt ku (by omega) (λ_ _=>trivial) λs7 g7 i7 v7 H7 f7 vs7 ev7=>?_⟩;have ev7':v7=.int (putT t u T).root:=ev7;subst ev7';have tk67:=(vi_K C).tups vs6 f7;have kp:zpI T.ps:=tk.ky;refine⟨_,rfl,_,rfl,_,rfl,pl,T.ps,t,u,v,v',rfl,(hpl.same s46).vr (vi_K C) vs6 f7,so,kp,tk.ct,rt6.keep tk67,kt,ru.keep tk67,λp H8 s8 hp plp=>?_⟩;have ep:=zqy (x:=t) (w:=u) so;have il:=zoT (ps:=T.ps) (x:=t) (w:=u);have hcc:(putT t u T).cnt<=T.cnt+1:=by show(putT t u T).ps.length<=_;rw[ep];exact il
  have gn:=g7.n;refine⟨putT t u T,s7,p,_,_,_,rfl,(vi_K C).same vs7 s8,⟨i7,λz hz=>?_,by omega⟩,by rw[ep];exact zpk so,by rw[ep];exact plp,by omega,by omega,s8 _ _ ((vi_K C).lst vs6 f7 (s46 _ _ epc4)),Pv.SqL.keepS (Pv.SqL.vr (vi_K C) (Pv.SqL.keepS hS4 s46) vs6 f7) s8⟩;rw[ep] at hz;rcases zou hz with hz | hz
  ·exact kp z hz
  ·rw[hz];exact⟨kt,ku⟩
 ·rintro σ H4 ⟨T,st,pl,k5,k6,k7,rfl,vs,tk,so,hpl,hc,hl,epc4,hS4⟩;rw[List.length_map] at hc hl;refine⟨szl (show 1<=1000 by decide),λp0 hp0=>?_⟩;have s5:=zk (o:=.lst [.int 0]) (Same.refl H4) hp0;have e0:upd H4 p0 (.lst [.int 0]) p0=some (.lst [.int 0]):=zj;generalize upd H4 p0 (.lst [.int 0])=H5 at s5 e0;refine⟨_,rfl,_,rfl,_,rfl,a,_,rfl,Pv.SqL.keepS hS4 s5,λp1 hp1=>?_⟩;rw[ems];have s6:=zk (o:=.lst (ms.map V.int)) (Same.refl H5) hp1;have e1:upd H5 p1 (.lst (ms.map V.int)) p1=some (.lst (ms.map V.int)):=zj;generalize upd H5 p1 (.lst (ms.map V.int))=H6 at s6 e1;refine⟨p0,p1,_,_,rfl,rfl,s6 _ _ e0,e1,szl (by rw[List.length_map];show 1+ms.length<=1000;omega),λp2 hp2=>?_⟩;have s7:=zk (o:=.lst ([.int 0]++ms.map V.int)) (Same.refl H6) hp2;have e2:upd H6 p2 (.lst ([.int 0]++ms.map V.int)) p2=some (.lst ((0::ms).map V.int)):=zj;generalize upd H6 p2 (.lst ([.int 0]++ms.map V.int))=H7 at s7 e2;have s47:Same H4 H7:=λb o e=>s7 b o (s6 b o (s5 b o e));refine⟨p2,rfl,⟨_,SqL.of e2⟩,?_⟩;refine zc4 (xs:=(0::ms).map V.int) (λi σ H'=>∃(st:Vst) (k5:Option V),σ=[some (.ref a),some (.int (c0 % 2)),some (.ref x),some (.int T.root),some (.ref pl),k5,k6,k7]/\VK C H' x [d] st/\TOk st.all T/\PL H' pl T.ps/\H' p2=some (.lst ((0::ms).map V.int))/\800000<=st.n+3000 * i) ⟨st,_,rfl,(vi_K C).same vs s47,tk,hpl.same s47,e2,by omega⟩ ?_ ?_ ?_
  ·rintro i σ H' _ ⟨st,k5,rfl,_,_,_,e2',_⟩;exact SqL.of e2'
  ·rintro i y σ H8 hy ⟨st,k5,rfl,vs8,tk8,pl8,e28,hn8⟩;have hil:i < (0::ms).length:=by have:=(List.getElem?_eq_some_iff.mp hy).1;rwa[List.length_map] at this
   have hil':i < ms.length+1:=hil;obtain⟨n,_,ey⟩:=List.mem_map.mp (List.mem_of_getElem? hy);subst ey;refine⟨_,rfl,_,rfl,_,rfl,_,rfl,_,rfl,x,d,pl,st,T,n,_,rfl,vs8,tk8,so,by omega,pl8,by omega,cl,λs9 H9 f9 vs9 g9=>⟨_,rfl,ifF rfl ?_⟩⟩;have gn:=g9.n;exact⟨s9,_,rfl,vs9,tk8.go g9,pl8.vr (vi_K C) vs8 f9,(vi_K C).lst vs8 f9 e28,by omega⟩
  ·rintro σ H8 ⟨st,k5,rfl,vs8,tk8,pl8,e28,hn8⟩;obtain⟨d',ed',vsk⟩:=vs8.vs;cases ed';refine⟨_,rfl,λu dxu hu0 hdu ndu=>?_⟩;refine zdS hu0 hdu ndu λdu dv H9 s9 hdl hdn nel er el en=>?_;refine⟨u,dxu,_,rfl,er,(zfu du x dv).n5,u,du,x,dv,[],[],[],rfl,⟨⟨dxu,er⟩,el,en⟩,.nil,by decide,λl ns' ws' H10 s10 hl' hp' hs' el' rl'=>⟨szl (show 0<=1000 by decide),λpe hpe=>?_⟩⟩;have e0:ns'=[]:=List.Perm.eq_nil hp';subst e0;cases rl';have s11:=zk (o:=.lst []) (Same.refl H10) hpe;exact⟨l,pe,[],rfl,rfl,SqL.of (s11 _ _ el'),SqL.of zj,q _⟩
end
end Pv
namespace L2
open PySem PySem.Spec PyProof.Rows Px
theorem znw {X:Cx}{K:QA}{e:Expr}{f:Str}{pos:Pos}{ta:TE}(hK:X.K=K)(he:PE X e ta)(hb:attributeBase e f X.env (eval e X.env)=eval e X.env):PE X (.Attribute e f pos) (tXG K ta f):=hK ▸ zra he hb
end L2
namespace Pv
open PySem L2
noncomputable abbrev slaw:Stmt:=top 73
theorem zha:zr ["script","told","clash","e"] ["script"] (zh slaw):=L2.fsc (by decide+kernel)
def zi8 (K:QA):Sp:=λvs H Q _=>∃(a:Addr) (ns:List Int),vs=[.ref a]/\SqL K H a (ns.map V.int)/\ns.length<=63/\∀H',Q (.bl true) H'
section
variable {P:Program}{w:World}{K:QA}{mg:QB}{base:Heap}{CC:Addr}
theorem zqK {f:Addr}{fd:FuncData}(F:Fun K "law" "law" slaw f fd) (ziw:FnX P w K mg base "_law_walked" 30 ["script"] (zjd K CC)) (zcd:Fn P w K mg base "seal" 13 ["thing"] zeR) (zpm:mg "Clash" =some (.ref CC)) (xc:XCls K CC) (n1:zR K CC "one") (n2:zR K CC "other")
  (em:PySem.W.exmOne K (.ref CC) (.ref CC)=some true):FnOk P w K mg base CX0 65 f fd ["script"] (zi8 K):=by
 refine F.ok (k:=64) zha (λvs H Q E h=>?_) (λcdv A outer s H vs Q E hr h=>?_)
 ·obtain⟨a,ns,rfl,_⟩:=h;rfl
 obtain⟨a,ns,rfl,hS,h63,q⟩:=h;refine⟨_,(zb (zq (i:=1) zha.nd rfl (Or.inl rfl) zbM)
 (zb (zq (i:=2) zha.nd rfl (Or.inl rfl) zaC)
 (zb (znp (i:=3) rfl rfl zha.nd rfl rfl (by rfl) zpm (λxe pn E hx=>(zd (zq (i:=1) zha.nd rfl (Or.inl rfl) (zp2 ziw hr (by omega) (by rfl) hx (za (pv 0) zc))))) (λe=>(zd (zq (i:=2) zha.nd rfl (Or.inl rfl) (zau (za (znw (K:=K) rfl (pv 3) (by rfl)) (za (znw (K:=K) rfl (pv 3) (by rfl)) zc)))))))
 (zb (zL (zB zfN (pv 2) zaC (zA _))
 (zd (zm (zdM (zax (zfQ hr) (zt zy (pv 2) zg (λ_ _=>rfl)) (zt zy (pv 2) zg (λ_ _=>rfl)) (zA _)) (ze6 (zax zcu (zF zcd hr (by omega) (by rfl) (za (zt zy (pv 2) zg (λ_ _=>rfl)) zc)) (zF zcd hr (by omega) (by rfl) (za (zt zy (pv 2) zg (λ_ _=>rfl)) zc)) (zA _))))))
 zu)
 (zd (zm (pv 1))))))),?_⟩
 refine⟨_,rfl,a,ns,rfl,hS,h63,λH1=>?_,λt1 t2 v1 v2 H1 x r1 r2 g1 g2 ne sn ex=>⟨CC,rfl,em,λe he=>?_⟩⟩
 ·refine⟨_,rfl,rfl,_,rfl,ifF rfl ?_⟩;exact⟨_,rfl,q H1⟩
 ·have xe:x≠e:=zo ex he;have ex2:upd H1 e (exO e CC (some x) false) x=some (xdO x [("one",v1),("other",v2)]):=by rw[zl xe];exact ex
  have gd:=g1.dp;have gd2:=g2.dp;have gn:=g1.nd;have gn2:=g2.nd;refine⟨_,rfl,e,CC,false,x,_,v1,rfl,zj,ex2,xc,n1,by rfl,_,rfl,e,CC,false,x,_,v2,rfl,zj,ex2,xc,n2,by rfl,szl (show 2<=1000 by decide),λp hp=>?_⟩;have tk:Tups H1 (upd (upd H1 e (exO e CC (some x) false)) p (.tup [v1,v2])):=(Tups.new he).trans (Tups.new hp);have ra:=r1.keep tk;have rb:=r2.keep tk;have ep:upd (upd H1 e (exO e CC (some x) false)) p (.tup [v1,v2]) p=some (.tup [v1,v2]):=zj;generalize upd (upd H1 e (exO e CC (some x) false)) p (.tup [v1,v2])=H2 at ra rb ep;have et:SqT K H2 p [v1,v2]:=SqT.of ep;refine⟨_,rfl,rfl,_,rfl,ifT rfl ?_⟩;refine⟨_,rfl,p,_,_,_,rfl,rfl,et,rfl,_,rfl,p,_,_,_,rfl,rfl,et,rfl,t1,t2,ra,rb,by omega,_,rfl,ifT (by rw[show eqT t1 t2=false from by cases z:eqT t1 t2 with | true=>exact Ji ((za3 _ _).mp z) ne | false=>rfl];rfl) ?_⟩;refine⟨_,rfl,p,_,_,_,rfl,rfl,et,rfl,t1,v1,rfl,ra,g1.wf,by omega,by omega,λH3 s3=>?_⟩;refine⟨_,rfl,p,_,_,_,rfl,rfl,SqT.of (s3 _ _ ep),rfl,t2,v2,rfl,rb.keep (Same.tups s3),g2.wf,by omega,by omega,λH4 s4=>?_⟩;refine⟨rfl,?_⟩;rw[sn,decide_eq_true rfl];exact q H4
end
end Pv
namespace Pv
open PySem L2
section
variable {P:Program}{w:World}{K:QA}{mg:QB}{base:Heap}{R C CC CN CB:Addr}{t1 t2 t3 t4 t5 t6 t7:Tok}
theorem zpf (MK1:Mt P w K mg base (CX1 P w) C "thing" 2 ["self","number"] (zci (VK C) CN)) (MK2:Mt P w K mg base (CX1 P w) C "lay" 14 ["self","thing"] (zcH (VK C) CC)) (cK:Cls K C) (MR1:∀kp dk,Mt P w K mg base (CX1 P w) R "thing" 2 ["self","number"] (zci (VRd R C kp dk) CN)) (MR2:∀kp dk,Mt P w K mg base (CX1 P w) R "lay" 14 ["self","thing"] (zcH (VRd R C kp dk) CC)) (cR:Cls K R)
  (D1:Dfn K mg "node_beneath" zbr ["vault","root","count"]) (zfe:Fn P w K mg base "is_node" 3 ["thing"] zmG) (xB:XP K mg "BadThing" CB) (D2:Dfn K mg "size_beneath" zbs ["vault","root","count"]) (D3:Dfn K mg "size" ssize ["vault","root"]) (D4:Dfn K mg "way_to" zfI ["vault","root","key"]) (zkh:Fn P w K mg base "side_of" 21 ["node","key"] zes) (zki:Fn P w K mg base "ends_at" 1 ["way","key"] (zeb K)) (D5:Dfn K mg "found" ziq ["vault","root","key"]) (D6:Dfn K mg "hung" zkT ["vault","way","key","root","more"]) (D7:Dfn K mg "parted" zfJ ["vault","way","key","root","count"]) (zkj:Fn P w K mg base "with_tree" 1 ["node","side","root","count"] zee) (zpn:Fn P w K mg base "place_in" 22 ["way","key"] zgq) (D8:Dfn K mg "put" sput ["vault","root","key","worth"]) (D9:Dfn K mg "joined" zfP ["vault","left","right","count"]) (D10:Dfn K mg "cut" scut ["vault","root","key"]) (zeG:Fn P w K mg base "above" 21 ["key","other"] zfL) (zpo:Fn P w K mg base "is_empty" 21 ["low","high"] zeE) (zbl:Fn P w K mg base "ahead" 20 ["one","other"] (zcD 9)) (D11:Dfn K mg "count_ahead" zbF ["vault","root","key"]) (D12:Dfn K mg "counted" zeA ["vault","root","low","high"]) (D13:Dfn K mg "nth" snth ["vault","root","number"])
  (g1:mg "KEY" =some (.int 0 t1)) (g2:mg "WORTH" =some (.int 1 t2)) (g3:mg "LEFT" =some (.int 2 t3)) (g4:mg "RIGHT" =some (.int 3 t4)) (g5:mg "COUNT" =some (.int 4 t5)) (g7:mg "BENEATH_NONE" =some (.int 301 t7)) (zP:mg "len" =none) (zog:mg "reversed" =none) (i:Option (Addr ×Addr)):
  FnX P w K mg base "found" 23 ["vault","root","key"] (zed (VRi R C i) CN CB CC)/\FnX P w K mg base "put" 23 ["vault","root","key","worth"] (zgl (VRi R C i) CN CB CC)/\FnX P w K mg base "cut" 23 ["vault","root","key"] (zis (VRi R C i) CN CB CC)/\FnX P w K mg base "counted" 24 ["vault","root","low","high"] (zbT (VRi R C i) CN CB CC)/\FnX P w K mg base "nth" 6 ["vault","root","number"] (zgk (VRi R C i) CN CB CC):=by
 have all:∀{W:Addr} {VR:VRT},VI W VR->Mt P w K mg base (CX1 P w) W "thing" 2 ["self","number"] (zci VR CN)->Mt P w K mg base (CX1 P w) W "lay" 14 ["self","thing"] (zcH VR CC)->Cls K W->
   FnX P w K mg base "found" 23 ["vault","root","key"] (zed VR CN CB CC)/\FnX P w K mg base "put" 23 ["vault","root","key","worth"] (zgl VR CN CB CC)/\FnX P w K mg base "cut" 23 ["vault","root","key"] (zis VR CN CB CC)/\FnX P w K mg base "counted" 24 ["vault","root","low","high"] (zbT VR CN CB CC)/\FnX P w K mg base "nth" 6 ["vault","root","number"] (zgk VR CN CB CC):=λ{W VR} I M1 M2 c=>by
  have f1:FnX P w K mg base "node_beneath" 4 ["vault","root","count"] (zeS VR CN CB CC):=zpc I D1 M1 c zfe xB g5;have f2:=zmb I D2 f1 g5;have f3:=znX I D3 f2 g7;have f4:=zov I D4 f1 zkh g1 g5 g7;have f6:FnX P w K mg base "hung" 22 ["vault","way","key","root","more"] (zfE VR CN CB CC):=zns I D6 M2 c zkj zkh g5 zog;have f7:FnX P w K mg base "parted" 22 ["vault","way","key","root","count"] (zeN VR CN CB CC):=zkc I D7 M2 c zkj zkh g5 g3 g4 zog;have f9:=znM I D9 f1 zeG M2 c zkj g1 g3 g4 g5 zog;have f11:=zoF I D11 f4 zbl f2 g1 g3 g5;exact⟨zl5 I D5 f4 zki g2,zoX I D8 f4 zki M2 c f6 f7 zpn g5 g3 g4 zP,zoJ I D10 f4 zki f6 f9 g5 g3 g4,zji I D12 zpo f3 f11,zoC I D13 f1 f2 g1 g2 g3 g4 g5 g7⟩
 cases i with
 | none=>exact all (vi_K C) MK1 MK2 cK
 | some y=>exact all (vi_R R C y.1 y.2) (MR1 y.1 y.2) (MR2 y.1 y.2) cR
end
end Pv
namespace Pv
open PySem L2
theorem len0 {us:QN}(h:us.length=0):us=[]:=List.length_eq_zero_iff.mp h
theorem len1 {us:QN}(h:us.length=1):∃a,us=[a]:=List.length_eq_one_iff.mp h
theorem len2 {us:QN}(h:us.length=2):∃a b,us=[a,b]:=by
 cases us with
 | nil=>cases h
 | cons a r=>obtain⟨b,rfl⟩:=len1 (Nat.succ.inj h);exact⟨a,b,rfl⟩
theorem len3 {us:QN}(h:us.length=3):∃a b c,us=[a,b,c]:=by
 cases us with
 | nil=>cases h
 | cons a r=>obtain⟨b,c,rfl⟩:=len2 (Nat.succ.inj h);exact⟨a,b,c,rfl⟩
theorem len4 {us:QN}(h:us.length=4):∃a b c d,us=[a,b,c,d]:=by
 cases us with
 | nil=>cases h
 | cons a r=>obtain⟨b,c,d,rfl⟩:=len3 (Nat.succ.inj h);exact⟨a,b,c,d,rfl⟩
theorem len5 {us:QN}(h:us.length=5):∃a b c d e,us=[a,b,c,d,e]:=by
 cases us with
 | nil=>cases h
 | cons a r=>obtain⟨b,c,d,e,rfl⟩:=len4 (Nat.succ.inj h);exact⟨a,b,c,d,e,rfl⟩
theorem len6 {us:QN}(h:us.length=6):∃a b c d e f,us=[a,b,c,d,e,f]:=by
 cases us with
 | nil=>cases h
 | cons a r=>obtain⟨b,c,d,e,f,rfl⟩:=len5 (Nat.succ.inj h);exact⟨a,b,c,d,e,f,rfl⟩
theorem len7 {us:QN}(h:us.length=7):∃a b c d e f g,us=[a,b,c,d,e,f,g]:=by
 cases us with
 | nil=>cases h
 | cons a r=>obtain⟨b,c,d,e,f,g,rfl⟩:=len6 (Nat.succ.inj h);exact⟨a,b,c,d,e,f,g,rfl⟩
theorem zdT {K:QA}{h:Heap}{mg:QB}(x:Str)(st:Stmt)(ps:QP){f:Addr}{od an:QM}{sl:QJ}{oc kV dc pm cd ct:Value}(X:K.In h)(G:h.Ns mainGlobals mg)
  (a:PySem.W.nsIn K mainGlobals x=some (some (.ref f))) (l:K.lookup f=some ⟨oc,od,.func (PySem.W.fnOf x x (zS st) (zM st) (zh st) .none kV dc pm an cd ct),sl⟩) (c:PySem.W.codeIn K cd x=true) (k:PySem.W.keepIn K (.ref f)=true)
  (b:∀(kV doc pm:Value) (an:QM) (cdv ct:Value) (us:QN),us.length=ps.length->bindArgs (PySem.W.fnOf x x (zS st) (zM st) (zh st) .none kV doc pm an cdv ct) ⟨us,[]⟩=pure (ps.zip us)):Dfn K mg x st ps:=
 ⟨_,_,zbP l c k,(zbP l c k).binds b,PySem.W.mg_of X G a⟩
theorem dfn1 {K:QA}{h:Heap}{mg:QB}{x:Str}{st:Stmt}{ps:QP}{f:Addr}{od an:QM}{sl:QJ}{oc kV dc pm cd ct:Value}(X:K.In h)(G:h.Ns mainGlobals mg)(hl:ps.length=1)
  (a:PySem.W.nsIn K mainGlobals x=some (some (.ref f))) (l:K.lookup f=some ⟨oc,od,.func (PySem.W.fnOf x x (zS st) (zM st) (zh st) .none kV dc pm an cd ct),sl⟩) (c:PySem.W.codeIn K cd x=true) (k:PySem.W.keepIn K (.ref f)=true)
  (b:∀(kV doc pm:Value) (an:QM) (cdv ct u0:Value),bindArgs (PySem.W.fnOf x x (zS st) (zM st) (zh st) .none kV doc pm an cdv ct) ⟨[u0],[]⟩=pure (ps.zip [u0])):Dfn K mg x st ps:=
 zdT x st ps X G a l c k λ_ _ _ _ _ _ us h=>by rw[hl] at h;obtain⟨_,rfl⟩:=len1 h;exact b ..
theorem dfn2 {K:QA}{h:Heap}{mg:QB}{x:Str}{st:Stmt}{ps:QP}{f:Addr}{od an:QM}{sl:QJ}{oc kV dc pm cd ct:Value}(X:K.In h)(G:h.Ns mainGlobals mg)(hl:ps.length=2)
  (a:PySem.W.nsIn K mainGlobals x=some (some (.ref f))) (l:K.lookup f=some ⟨oc,od,.func (PySem.W.fnOf x x (zS st) (zM st) (zh st) .none kV dc pm an cd ct),sl⟩) (c:PySem.W.codeIn K cd x=true) (k:PySem.W.keepIn K (.ref f)=true)
  (b:∀(kV doc pm:Value) (an:QM) (cdv ct u0 u1:Value),bindArgs (PySem.W.fnOf x x (zS st) (zM st) (zh st) .none kV doc pm an cdv ct) ⟨[u0,u1],[]⟩=pure (ps.zip [u0,u1])):Dfn K mg x st ps:=
 zdT x st ps X G a l c k λ_ _ _ _ _ _ us h=>by rw[hl] at h;obtain⟨_,_,rfl⟩:=len2 h;exact b ..
theorem dfn3 {K:QA}{h:Heap}{mg:QB}{x:Str}{st:Stmt}{ps:QP}{f:Addr}{od an:QM}{sl:QJ}{oc kV dc pm cd ct:Value}(X:K.In h)(G:h.Ns mainGlobals mg)(hl:ps.length=3)
  (a:PySem.W.nsIn K mainGlobals x=some (some (.ref f))) (l:K.lookup f=some ⟨oc,od,.func (PySem.W.fnOf x x (zS st) (zM st) (zh st) .none kV dc pm an cd ct),sl⟩) (c:PySem.W.codeIn K cd x=true) (k:PySem.W.keepIn K (.ref f)=true)
  (b:∀(kV doc pm:Value) (an:QM) (cdv ct u0 u1 u2:Value),bindArgs (PySem.W.fnOf x x (zS st) (zM st) (zh st) .none kV doc pm an cdv ct) ⟨[u0,u1,u2],[]⟩=pure (ps.zip [u0,u1,u2])):Dfn K mg x st ps:=
 zdT x st ps X G a l c k λ_ _ _ _ _ _ us h=>by rw[hl] at h;obtain⟨_,_,_,rfl⟩:=len3 h;exact b ..
theorem dfn4 {K:QA}{h:Heap}{mg:QB}{x:Str}{st:Stmt}{ps:QP}{f:Addr}{od an:QM}{sl:QJ}{oc kV dc pm cd ct:Value}(X:K.In h)(G:h.Ns mainGlobals mg)(hl:ps.length=4)
  (a:PySem.W.nsIn K mainGlobals x=some (some (.ref f))) (l:K.lookup f=some ⟨oc,od,.func (PySem.W.fnOf x x (zS st) (zM st) (zh st) .none kV dc pm an cd ct),sl⟩) (c:PySem.W.codeIn K cd x=true) (k:PySem.W.keepIn K (.ref f)=true)
  (b:∀(kV doc pm:Value) (an:QM) (cdv ct u0 u1 u2 u3:Value),bindArgs (PySem.W.fnOf x x (zS st) (zM st) (zh st) .none kV doc pm an cdv ct) ⟨[u0,u1,u2,u3],[]⟩=pure (ps.zip [u0,u1,u2,u3])):Dfn K mg x st ps:=
 zdT x st ps X G a l c k λ_ _ _ _ _ _ us h=>by rw[hl] at h;obtain⟨_,_,_,_,rfl⟩:=len4 h;exact b ..
theorem dfn5 {K:QA}{h:Heap}{mg:QB}{x:Str}{st:Stmt}{ps:QP}{f:Addr}{od an:QM}{sl:QJ}{oc kV dc pm cd ct:Value}(X:K.In h)(G:h.Ns mainGlobals mg)(hl:ps.length=5)
  (a:PySem.W.nsIn K mainGlobals x=some (some (.ref f))) (l:K.lookup f=some ⟨oc,od,.func (PySem.W.fnOf x x (zS st) (zM st) (zh st) .none kV dc pm an cd ct),sl⟩) (c:PySem.W.codeIn K cd x=true) (k:PySem.W.keepIn K (.ref f)=true)
  (b:∀(kV doc pm:Value) (an:QM) (cdv ct u0 u1 u2 u3 u4:Value),bindArgs (PySem.W.fnOf x x (zS st) (zM st) (zh st) .none kV doc pm an cdv ct) ⟨[u0,u1,u2,u3,u4],[]⟩=pure (ps.zip [u0,u1,u2,u3,u4])):Dfn K mg x st ps:=
 zdT x st ps X G a l c k λ_ _ _ _ _ _ us h=>by rw[hl] at h;obtain⟨_,_,_,_,_,rfl⟩:=len5 h;exact b ..
theorem dfn6 {K:QA}{h:Heap}{mg:QB}{x:Str}{st:Stmt}{ps:QP}{f:Addr}{od an:QM}{sl:QJ}{oc kV dc pm cd ct:Value}(X:K.In h)(G:h.Ns mainGlobals mg)(hl:ps.length=6)
  (a:PySem.W.nsIn K mainGlobals x=some (some (.ref f))) (l:K.lookup f=some ⟨oc,od,.func (PySem.W.fnOf x x (zS st) (zM st) (zh st) .none kV dc pm an cd ct),sl⟩) (c:PySem.W.codeIn K cd x=true) (k:PySem.W.keepIn K (.ref f)=true)
  (b:∀(kV doc pm:Value) (an:QM) (cdv ct u0 u1 u2 u3 u4 u5:Value),bindArgs (PySem.W.fnOf x x (zS st) (zM st) (zh st) .none kV doc pm an cdv ct) ⟨[u0,u1,u2,u3,u4,u5],[]⟩=pure (ps.zip [u0,u1,u2,u3,u4,u5])):Dfn K mg x st ps:=
 zdT x st ps X G a l c k λ_ _ _ _ _ _ us h=>by rw[hl] at h;obtain⟨_,_,_,_,_,_,rfl⟩:=len6 h;exact b ..
theorem dfn7 {K:QA}{h:Heap}{mg:QB}{x:Str}{st:Stmt}{ps:QP}{f:Addr}{od an:QM}{sl:QJ}{oc kV dc pm cd ct:Value}(X:K.In h)(G:h.Ns mainGlobals mg)(hl:ps.length=7)
  (a:PySem.W.nsIn K mainGlobals x=some (some (.ref f))) (l:K.lookup f=some ⟨oc,od,.func (PySem.W.fnOf x x (zS st) (zM st) (zh st) .none kV dc pm an cd ct),sl⟩) (c:PySem.W.codeIn K cd x=true) (k:PySem.W.keepIn K (.ref f)=true)
  (b:∀(kV doc pm:Value) (an:QM) (cdv ct u0 u1 u2 u3 u4 u5 u6:Value),bindArgs (PySem.W.fnOf x x (zS st) (zM st) (zh st) .none kV doc pm an cdv ct) ⟨[u0,u1,u2,u3,u4,u5,u6],[]⟩=pure (ps.zip [u0,u1,u2,u3,u4,u5,u6])):Dfn K mg x st ps:=
 zdT x st ps X G a l c k λ_ _ _ _ _ _ us h=>by rw[hl] at h;obtain⟨_,_,_,_,_,_,_,rfl⟩:=len7 h;exact b ..
theorem zcN {K:QA}{h:Heap}{mg:QB}{x:Str}{i:Int}{t:Tok}(X:K.In h)(G:h.Ns mainGlobals mg)(a:PySem.W.nsIn K mainGlobals x=some (some (.int i t))):∃t,mg x=some (.int i t):=⟨t,PySem.W.mg_of X G a⟩
theorem zqm {l:PySem.W.OpenLaw}{w:World}{K:QA}{h:Heap}{mg:QB}{fa f:Addr}{od an:QM}{sl:QJ}{oc kV dc pm cd ct:Value}(X:K.In h)(G:h.Ns mainGlobals mg)(hfa:mg "law" =some (.ref fa))
  (a:PySem.W.nsIn K mainGlobals "law" =some (some (.ref f))) (lk:K.lookup f=some ⟨oc,od,.func (PySem.W.fnOf "law" "law" (zS slaw) (zM slaw) (zh slaw) .none kV dc pm an cd ct),sl⟩) (c:PySem.W.codeIn K cd "law" =true) (k:PySem.W.keepIn K (.ref f)=true)
  (ok:∀(base:Heap) (fd:FuncData),Fun K "law" "law" slaw f fd->FnOk l.prog w K mg base CX0 65 f fd ["script"] (zi8 K)):
  ∃fd:FuncData,(∀(s:Shared) (v:Value),BindsTo s fd ⟨[v],[]⟩ [("script",v)])/\∀base:Heap,K.In base->base.Ns mainGlobals mg->FnOk l.prog w K mg base CX0 65 fa fd ["script"] (zi8 K):=by
 have e:=hfa.symm.trans (PySem.W.mg_of X G a);cases e;exact⟨PySem.W.fnOf "law" "law" (zS slaw) (zM slaw) (zh slaw) .none kV dc pm an cd ct,λs v=>.of_eq rfl,λbase _ _=>ok base _ (zbP lk c k)⟩
theorem walk {l:PySem.W.OpenLaw}{q:Program}{loose:QP}{XP:(Str->Option Value)->Heap->Prop}{YP:World->Heap->Prop}{d:DefRec}{K:Params->QA}(hn:l.most=some 63)(hdf:d.params.defaults=[])
  (hY:∀(w:World) (h:Heap),YP w h->(K w.params).In h)
  (F:∀(w:World) (mg:QB) (fa:Addr) (h:Heap),(K w.params).In h->h.Ns mainGlobals mg->mg d.name=some (.ref fa)->
   ∃fd:FuncData,(∀(s:Shared) (u:Value),BindsTo s fd ⟨[u],[]⟩ [("script",u)])/\∀base:Heap,(K w.params).In base->base.Ns mainGlobals mg->FnOk l.prog w (K w.params) mg base CX0 65 fa fd ["script"] (zi8 (K w.params))):
  PySem.W.WalkO q loose XP YP l.row.toRowW d [] (λf vs=>PySem.call f vs):=
 L2.zoV (n:=63) (k:=65) (x:= "script") (CX:=λ_=>CX0) (sp:=λw=>zi8 (K w.params)) hn (by decide) hdf ⟨rfl,by decide,by decide⟩ hY F (λ_ _ a ns hl _ hS=>⟨a,ns,rfl,hS,hl,λ_=>rfl⟩) λ_ _ _ _ _ z=>z
end Pv
open PySem PySem.W PyProof.Rows
set_option maxRecDepth 100000 in
set_option maxHeartbeats 0 in
theorem PySem.Challenge.cw_papervault_k36_what_is_read_holds : PySem.Challenge.rw_papervault_k36_what_is_read.Holds := by
 refine holds_law Pv.said λsaid=>?_;refine holds_open (q:=Pv.VQ) (loose:=[]) (XP:=XL Pv.VQ []) (YP:=InK Pv.KK) Pv.left (InK.of Pv.addrs) InK.keeps (λs e=>xl_of s (Jy.mp e).1) XL.keeps (by rfl) (by rfl) (by rfl) (λs e=>recFacts_of (Jy.mp e).2) (by rfl) said (by decide+kernel) ⟨rfl,rfl,rfl,rfl,rfl,by decide+kernel⟩ ?hw ?hc
 (case hw=>w_witness2)
 k_fill
 refine Pv.walk (l:=PySem.Challenge.rw_papervault_k36_what_is_read) rfl rfl (λw h Y=>Y) ?F
 case F=>
  intro w mg fa h KX G hmg;have zqR:L2.Dfn (L2.KOf KX) mg "seal" Pv.zn1 ["thing"]:=by dsimp only[L2.KOf];refine' Pv.dfn1 KX G rfl ?a ?l ?c ?k λ_ _ _ _ _ _ _=>rfl;case a | l | c | k=>k_is
  have zpp:L2.Dfn (L2.KOf KX) mg "codes" Pv.zj6 ["thing"]:=by dsimp only[L2.KOf];refine' Pv.dfn1 KX G rfl ?a ?l ?c ?k λ_ _ _ _ _ _ _=>rfl;case a | l | c | k=>k_is
  have zjt:L2.Dfn (L2.KOf KX) mg "number_of" Pv.zdP ["signs"]:=by dsimp only[L2.KOf];refine' Pv.dfn1 KX G rfl ?a ?l ?c ?k λ_ _ _ _ _ _ _=>rfl;case a | l | c | k=>k_is
  have zkk:L2.Dfn (L2.KOf KX) mg "is_whole" Pv.zfa ["value"]:=by dsimp only[L2.KOf];refine' Pv.dfn1 KX G rfl ?a ?l ?c ?k λ_ _ _ _ _ _ _=>rfl;case a | l | c | k=>k_is
  have zmm:L2.Dfn (L2.KOf KX) mg "kind_of" Pv.zgd ["thing"]:=by dsimp only[L2.KOf];refine' Pv.dfn1 KX G rfl ?a ?l ?c ?k λ_ _ _ _ _ _ _=>rfl;case a | l | c | k=>k_is
  have zpq:L2.Dfn (L2.KOf KX) mg "ahead" Pv.zkb ["one","other"]:=by dsimp only[L2.KOf];refine' Pv.dfn2 KX G rfl ?a ?l ?c ?k λ_ _ _ _ _ _ _ _=>rfl;case a | l | c | k=>k_is
  have zfi:L2.Dfn (L2.KOf KX) mg "is_tuple_ahead" Pv.za4 ["one","other"]:=by dsimp only[L2.KOf];refine' Pv.dfn2 KX G rfl ?a ?l ?c ?k λ_ _ _ _ _ _ _ _=>rfl;case a | l | c | k=>k_is
  have zgZ:L2.Dfn (L2.KOf KX) mg "node_beneath" Pv.zbr ["vault","root","count"]:=by dsimp only[L2.KOf];refine' Pv.dfn3 KX G rfl ?a ?l ?c ?k λ_ _ _ _ _ _ _ _ _=>rfl;case a | l | c | k=>k_is
  have zmn:L2.Dfn (L2.KOf KX) mg "is_node" Pv.zgv ["thing"]:=by dsimp only[L2.KOf];refine' Pv.dfn1 KX G rfl ?a ?l ?c ?k λ_ _ _ _ _ _ _=>rfl;case a | l | c | k=>k_is
  have zmo:L2.Dfn (L2.KOf KX) mg "is_root" Pv.zgD ["thing"]:=by dsimp only[L2.KOf];refine' Pv.dfn1 KX G rfl ?a ?l ?c ?k λ_ _ _ _ _ _ _=>rfl;case a | l | c | k=>k_is
  have zqS:L2.Dfn (L2.KOf KX) mg "size" Pv.ssize ["vault","root"]:=by dsimp only[L2.KOf];refine' Pv.dfn2 KX G rfl ?a ?l ?c ?k λ_ _ _ _ _ _ _ _=>rfl;case a | l | c | k=>k_is
  have zg0:L2.Dfn (L2.KOf KX) mg "size_beneath" Pv.zbs ["vault","root","count"]:=by dsimp only[L2.KOf];refine' Pv.dfn3 KX G rfl ?a ?l ?c ?k λ_ _ _ _ _ _ _ _ _=>rfl;case a | l | c | k=>k_is
  have zqT:L2.Dfn (L2.KOf KX) mg "rank" Pv.znI ["key"]:=by dsimp only[L2.KOf];refine' Pv.dfn1 KX G rfl ?a ?l ?c ?k λ_ _ _ _ _ _ _=>rfl;case a | l | c | k=>k_is
  have zpr:L2.Dfn (L2.KOf KX) mg "above" Pv.zjJ ["key","other"]:=by dsimp only[L2.KOf];refine' Pv.dfn2 KX G rfl ?a ?l ?c ?k λ_ _ _ _ _ _ _ _=>rfl;case a | l | c | k=>k_is
  have zmp:L2.Dfn (L2.KOf KX) mg "side_of" Pv.zgS ["node","key"]:=by dsimp only[L2.KOf];refine' Pv.dfn2 KX G rfl ?a ?l ?c ?k λ_ _ _ _ _ _ _ _=>rfl;case a | l | c | k=>k_is
  have zoh:L2.Dfn (L2.KOf KX) mg "way_to" Pv.zfI ["vault","root","key"]:=by dsimp only[L2.KOf];refine' Pv.dfn3 KX G rfl ?a ?l ?c ?k λ_ _ _ _ _ _ _ _ _=>rfl;case a | l | c | k=>k_is
  have zmq:L2.Dfn (L2.KOf KX) mg "ends_at" Pv.zgB ["way","key"]:=by dsimp only[L2.KOf];refine' Pv.dfn2 KX G rfl ?a ?l ?c ?k λ_ _ _ _ _ _ _ _=>rfl;case a | l | c | k=>k_is
  have zps:L2.Dfn (L2.KOf KX) mg "found" Pv.ziq ["vault","root","key"]:=by dsimp only[L2.KOf];refine' Pv.dfn3 KX G rfl ?a ?l ?c ?k λ_ _ _ _ _ _ _ _ _=>rfl;case a | l | c | k=>k_is
  have zkl:L2.Dfn (L2.KOf KX) mg "is_empty" Pv.zeX ["low","high"]:=by dsimp only[L2.KOf];refine' Pv.dfn2 KX G rfl ?a ?l ?c ?k λ_ _ _ _ _ _ _ _=>rfl;case a | l | c | k=>k_is
  have zmr:L2.Dfn (L2.KOf KX) mg "stretch" Pv.zgo ["vault","root","low","high"]:=by dsimp only[L2.KOf];refine' Pv.dfn4 KX G rfl ?a ?l ?c ?k λ_ _ _ _ _ _ _ _ _ _=>rfl;case a | l | c | k=>k_is
  have zg6:L2.Dfn (L2.KOf KX) mg "count_ahead" Pv.zbF ["vault","root","key"]:=by dsimp only[L2.KOf];refine' Pv.dfn3 KX G rfl ?a ?l ?c ?k λ_ _ _ _ _ _ _ _ _=>rfl;case a | l | c | k=>k_is
  have zms:L2.Dfn (L2.KOf KX) mg "counted" Pv.zeA ["vault","root","low","high"]:=by dsimp only[L2.KOf];refine' Pv.dfn4 KX G rfl ?a ?l ?c ?k λ_ _ _ _ _ _ _ _ _ _=>rfl;case a | l | c | k=>k_is
  have zrG:L2.Dfn (L2.KOf KX) mg "nth" Pv.snth ["vault","root","number"]:=by dsimp only[L2.KOf];refine' Pv.dfn3 KX G rfl ?a ?l ?c ?k λ_ _ _ _ _ _ _ _ _=>rfl;case a | l | c | k=>k_is
  have zju:L2.Dfn (L2.KOf KX) mg "with_tree" Pv.zdR ["node","side","root","count"]:=by dsimp only[L2.KOf];refine' Pv.dfn4 KX G rfl ?a ?l ?c ?k λ_ _ _ _ _ _ _ _ _ _=>rfl;case a | l | c | k=>k_is
  have zqU:L2.Dfn (L2.KOf KX) mg "hung" Pv.zkT ["vault","way","key","root","more"]:=by dsimp only[L2.KOf];refine' Pv.dfn5 KX G rfl ?a ?l ?c ?k λ_ _ _ _ _ _ _ _ _ _ _=>rfl;case a | l | c | k=>k_is
  have zoi:L2.Dfn (L2.KOf KX) mg "parted" Pv.zfJ ["vault","way","key","root","count"]:=by dsimp only[L2.KOf];refine' Pv.dfn5 KX G rfl ?a ?l ?c ?k λ_ _ _ _ _ _ _ _ _ _ _=>rfl;case a | l | c | k=>k_is
  have zkm:L2.Dfn (L2.KOf KX) mg "place_in" Pv.zeQ ["way","key"]:=by dsimp only[L2.KOf];refine' Pv.dfn2 KX G rfl ?a ?l ?c ?k λ_ _ _ _ _ _ _ _=>rfl;case a | l | c | k=>k_is
  have zrH:L2.Dfn (L2.KOf KX) mg "put" Pv.sput ["vault","root","key","worth"]:=by dsimp only[L2.KOf];refine' Pv.dfn4 KX G rfl ?a ?l ?c ?k λ_ _ _ _ _ _ _ _ _ _=>rfl;case a | l | c | k=>k_is
  have zrI:L2.Dfn (L2.KOf KX) mg "cut" Pv.scut ["vault","root","key"]:=by dsimp only[L2.KOf];refine' Pv.dfn3 KX G rfl ?a ?l ?c ?k λ_ _ _ _ _ _ _ _ _=>rfl;case a | l | c | k=>k_is
  have zoj:L2.Dfn (L2.KOf KX) mg "joined" Pv.zfP ["vault","left","right","count"]:=by dsimp only[L2.KOf];refine' Pv.dfn4 KX G rfl ?a ?l ?c ?k λ_ _ _ _ _ _ _ _ _ _=>rfl;case a | l | c | k=>k_is
  have zok:L2.Dfn (L2.KOf KX) mg "rising" Pv.zh0 ["laid"]:=by dsimp only[L2.KOf];refine' Pv.dfn1 KX G rfl ?a ?l ?c ?k λ_ _ _ _ _ _ _=>rfl;case a | l | c | k=>k_is
  have zg1:L2.Dfn (L2.KOf KX) mg "_law_cell_at" Pv.zb9 ["script","k"]:=by dsimp only[L2.KOf];refine' Pv.dfn2 KX G rfl ?a ?l ?c ?k λ_ _ _ _ _ _ _ _=>rfl;case a | l | c | k=>k_is
  have zkn:L2.Dfn (L2.KOf KX) mg "_law_mix" Pv.zeV ["cell","k"]:=by dsimp only[L2.KOf];refine' Pv.dfn2 KX G rfl ?a ?l ?c ?k λ_ _ _ _ _ _ _ _=>rfl;case a | l | c | k=>k_is
  have zix:L2.Dfn (L2.KOf KX) mg "_law_parts" Pv.zde ["cell","way","least"]:=by dsimp only[L2.KOf];refine' Pv.dfn3 KX G rfl ?a ?l ?c ?k λ_ _ _ _ _ _ _ _ _=>rfl;case a | l | c | k=>k_is
  have zjv:L2.Dfn (L2.KOf KX) mg "_law_text" Pv.zdK ["number","many"]:=by dsimp only[L2.KOf];refine' Pv.dfn2 KX G rfl ?a ?l ?c ?k λ_ _ _ _ _ _ _ _=>rfl;case a | l | c | k=>k_is
  have zko:L2.Dfn (L2.KOf KX) mg "_law_key" Pv.zfb ["cell","way"]:=by dsimp only[L2.KOf];refine' Pv.dfn2 KX G rfl ?a ?l ?c ?k λ_ _ _ _ _ _ _ _=>rfl;case a | l | c | k=>k_is
  have ziy:L2.Dfn (L2.KOf KX) mg "_law_worth" Pv.zdh ["cell","way"]:=by dsimp only[L2.KOf];refine' Pv.dfn2 KX G rfl ?a ?l ?c ?k λ_ _ _ _ _ _ _ _=>rfl;case a | l | c | k=>k_is
  have zjw:L2.Dfn (L2.KOf KX) mg "_law_sort" Pv.zdL ["thing"]:=by dsimp only[L2.KOf];refine' Pv.dfn1 KX G rfl ?a ?l ?c ?k λ_ _ _ _ _ _ _=>rfl;case a | l | c | k=>k_is
  have ziz:L2.Dfn (L2.KOf KX) mg "_law_ahead" Pv.zdj ["one","other"]:=by dsimp only[L2.KOf];refine' Pv.dfn2 KX G rfl ?a ?l ?c ?k λ_ _ _ _ _ _ _ _=>rfl;case a | l | c | k=>k_is
  have zg7:L2.Dfn (L2.KOf KX) mg "_law_put_in" Pv.zcG ["pairs","key","worth"]:=by dsimp only[L2.KOf];refine' Pv.dfn3 KX G rfl ?a ?l ?c ?k λ_ _ _ _ _ _ _ _ _=>rfl;case a | l | c | k=>k_is
  have zkp:L2.Dfn (L2.KOf KX) mg "_law_way" Pv.ze4 ["keeper","root","key"]:=by dsimp only[L2.KOf];refine' Pv.dfn3 KX G rfl ?a ?l ?c ?k λ_ _ _ _ _ _ _ _ _=>rfl;case a | l | c | k=>k_is
  have zjx:L2.Dfn (L2.KOf KX) mg "_law_edge" Pv.zdQ ["keeper","root","side"]:=by dsimp only[L2.KOf];refine' Pv.dfn3 KX G rfl ?a ?l ?c ?k λ_ _ _ _ _ _ _ _ _=>rfl;case a | l | c | k=>k_is
  have zfD:L2.Dfn (L2.KOf KX) mg "_law_long_way" Pv.zbR ["keeper","root","key"]:=by dsimp only[L2.KOf];refine' Pv.dfn3 KX G rfl ?a ?l ?c ?k λ_ _ _ _ _ _ _ _ _=>rfl;case a | l | c | k=>k_is
  have zjy:L2.Dfn (L2.KOf KX) mg "_law_kids" Pv.zdV ["keeper","way"]:=by dsimp only[L2.KOf];refine' Pv.dfn2 KX G rfl ?a ?l ?c ?k λ_ _ _ _ _ _ _ _=>rfl;case a | l | c | k=>k_is
  have ziA:L2.Dfn (L2.KOf KX) mg "_law_asked" Pv.zdi ["vault","root","kind","key","other","number"]:=by dsimp only[L2.KOf];refine' Pv.dfn6 KX G rfl ?a ?l ?c ?k λ_ _ _ _ _ _ _ _ _ _ _ _=>rfl;case a | l | c | k=>k_is
  have zkq:L2.Dfn (L2.KOf KX) mg "_law_let" Pv.zfc ["keeper","root","kind","key","other","pairs","number"]:=by dsimp only[L2.KOf];refine' Pv.dfn7 KX G rfl ?a ?l ?c ?k λ_ _ _ _ _ _ _ _ _ _ _ _ _=>rfl;case a | l | c | k=>k_is
  have zd2:L2.Dfn (L2.KOf KX) mg "_law_paper_right" Pv.zbe ["paper","let"]:=by dsimp only[L2.KOf];refine' Pv.dfn2 KX G rfl ?a ?l ?c ?k λ_ _ _ _ _ _ _ _=>rfl;case a | l | c | k=>k_is
  have ziB:L2.Dfn (L2.KOf KX) mg "_law_right" Pv.zc8 ["keeper","root","pairs","cell","way"]:=by dsimp only[L2.KOf];refine' Pv.dfn5 KX G rfl ?a ?l ?c ?k λ_ _ _ _ _ _ _ _ _ _ _=>rfl;case a | l | c | k=>k_is
  have zg8:L2.Dfn (L2.KOf KX) mg "_law_walked" Pv.zcR ["script"]:=by dsimp only[L2.KOf];refine' Pv.dfn1 KX G rfl ?a ?l ?c ?k λ_ _ _ _ _ _ _=>rfl;case a | l | c | k=>k_is
  have zkd:mg "bool" =none:=by
   refine' PySem.W.mg_none_of KX G ?z
   (case z=>k_is)
  have zdm:mg "enumerate" =none:=by
   refine' PySem.W.mg_none_of KX G ?z
   (case z=>k_is)
  have zba:mg "int" =none:=by
   refine' PySem.W.mg_none_of KX G ?z
   (case z=>k_is)
  have zv:mg "isinstance" =none:=by
   refine' PySem.W.mg_none_of KX G ?z
   (case z=>k_is)
  have zP:mg "len" =none:=by
   refine' PySem.W.mg_none_of KX G ?z
   (case z=>k_is)
  have zfg:mg "list" =none:=by
   refine' PySem.W.mg_none_of KX G ?z
   (case z=>k_is)
  have zlg:mg "min" =none:=by
   refine' PySem.W.mg_none_of KX G ?z
   (case z=>k_is)
  have m_ord:mg "ord" =none:=by
   refine' PySem.W.mg_none_of KX G ?z
   (case z=>k_is)
  have zap:mg "range" =none:=by
   refine' PySem.W.mg_none_of KX G ?z
   (case z=>k_is)
  have za8:mg "reversed" =none:=by
   refine' PySem.W.mg_none_of KX G ?z
   (case z=>k_is)
  have zgX:mg "sorted" =none:=by
   refine' PySem.W.mg_none_of KX G ?z
   (case z=>k_is)
  have zb7:mg "str" =none:=by
   refine' PySem.W.mg_none_of KX G ?z
   (case z=>k_is)
  have zcT:mg "tuple" =none:=by
   refine' PySem.W.mg_none_of KX G ?z
   (case z=>k_is)
  have zhE:mg "zip" =none:=by
   refine' PySem.W.mg_none_of KX G ?z
   (case z=>k_is)
  have zac:∃t,mg "BENEATH_NONE" =some (.int 301 t):=by
   refine' Pv.zcN KX G ?z
   (case z=>k_is)
  obtain⟨zol,zac⟩:=zac;have zQ:∃t,mg "COUNT" =some (.int 4 t):=by
   refine' Pv.zcN KX G ?z
   (case z=>k_is)
  obtain⟨zrN,zQ⟩:=zQ;have zaA:∃t,mg "KEY" =some (.int 0 t):=by
   refine' Pv.zcN KX G ?z
   (case z=>k_is)
  obtain⟨zrT,zaA⟩:=zaA;have zak:∃t,mg "LEFT" =some (.int 2 t):=by
   refine' Pv.zcN KX G ?z
   (case z=>k_is)
  obtain⟨zrS,zak⟩:=zak;have zbm:∃t,mg "MOST_NODES" =some (.int 300 t):=by
   refine' Pv.zcN KX G ?z
   (case z=>k_is)
  obtain⟨zpt,zbm⟩:=zbm;have zaa:∃t,mg "RIGHT" =some (.int 3 t):=by
   refine' Pv.zcN KX G ?z
   (case z=>k_is)
  obtain⟨zrO,zaa⟩:=zaa;have zaL:∃t,mg "WORTH" =some (.int 1 t):=by
   refine' Pv.zcN KX G ?z
   (case z=>k_is)
  obtain⟨zrP,zaL⟩:=zaL;obtain⟨CK,cK,nL,dI,dR,dL,dT,dTs⟩:∃C,L2.Cls (L2.KOf KX) C/\L2.zR (L2.KOf KX) C "laid" /\L2.Mkd (L2.KOf KX) mg "Keeper" C "Vault.__init__" Pv.zaq ["self"]/\L2.Mdf (L2.KOf KX) C "refuse_clash" "Vault.refuse_clash" Pv.zad ["self","number","thing"]/\L2.Mdf (L2.KOf KX) C "lay" "Vault.lay" Pv.zcP ["self","thing"]/\L2.Mdf (L2.KOf KX) C "thing" "Vault.thing" Pv.zbk ["self","number"]/\L2.Mdf (L2.KOf KX) C "things" "Keeper.things" Pv.zbd ["self"]:=by
   dsimp only[L2.KOf];refine' L2.zd3 KX (x:= "Keeper") ?n ⟨?c0,?c1,?c2,?c3,?c4,?c5,?c6⟩
   (case n=>k_is)
   (case c0=>refine' L2.zmt ?a ?b ?c ?d;(case a | b | c | d=>k_is))
   (case c1=>unfold L2.zR;k_is)
   (case c2=>refine' L2.znD (qual:= "Vault.__init__") (st:=Pv.zaq) (ps:=["self"]) KX G ?n ?mk ?a ?fn ?l ?c ?k ?kc ?b;(case n | mk | a | fn | l | c | k | kc=>k_is);(case b=>intro _ _ _ _ _ _ us hl;obtain⟨_,rfl⟩:=Pv.len1 hl;rfl))
   (case c3=>refine' L2.zdd (m:= "refuse_clash") (qual:= "Vault.refuse_clash") (st:=Pv.zad) (ps:=["self","number","thing"]) ?a ?fn ?l ?c ?k ?b;(case a | fn | l | c | k=>k_is);(case b=>intro _ _ _ _ _ _ us hl;obtain⟨_,_,_,rfl⟩:=Pv.len3 hl;rfl))
   (case c4=>refine' L2.zdd (m:= "lay") (qual:= "Vault.lay") (st:=Pv.zcP) (ps:=["self","thing"]) ?a ?fn ?l ?c ?k ?b;(case a | fn | l | c | k=>k_is);(case b=>intro _ _ _ _ _ _ us hl;obtain⟨_,_,rfl⟩:=Pv.len2 hl;rfl))
   (case c5=>refine' L2.zdd (m:= "thing") (qual:= "Vault.thing") (st:=Pv.zbk) (ps:=["self","number"]) ?a ?fn ?l ?c ?k ?b;(case a | fn | l | c | k=>k_is);(case b=>intro _ _ _ _ _ _ us hl;obtain⟨_,_,rfl⟩:=Pv.len2 hl;rfl))
   (case c6=>refine' L2.zdd (m:= "things") (qual:= "Keeper.things") (st:=Pv.zbd) (ps:=["self"]) ?a ?fn ?l ?c ?k ?b;(case a | fn | l | c | k=>k_is);(case b=>intro _ _ _ _ _ _ us hl;obtain⟨_,rfl⟩:=Pv.len1 hl;rfl))
  obtain⟨CR,cR,nLR,nKR,nNR,dRI,dRR,dRL,dRT,dRP⟩:∃C,L2.Cls (L2.KOf KX) C/\L2.zR (L2.KOf KX) C "laid" /\L2.zR (L2.KOf KX) C "keeper" /\L2.zR (L2.KOf KX) C "noted" /\L2.Mkd (L2.KOf KX) mg "Reader" C "Reader.__init__" Pv.zaW ["self","keeper"]/\L2.Mdf (L2.KOf KX) C "refuse_clash" "Vault.refuse_clash" Pv.zad ["self","number","thing"]/\L2.Mdf (L2.KOf KX) C "lay" "Reader.lay" Pv.zb4 ["self","thing"]/\L2.Mdf (L2.KOf KX) C "thing" "Reader.thing" Pv.zbv ["self","number"]/\L2.Mdf (L2.KOf KX) C "paper" "Reader.paper" Pv.zbw ["self"]:=by
   dsimp only[L2.KOf];refine' L2.zd3 KX (x:= "Reader") ?n ⟨?c0,?c1,?c2,?c3,?c4,?c5,?c6,?c7,?c8⟩
   (case n=>k_is)
   (case c0=>refine' L2.zmt ?a ?b ?c ?d;(case a | b | c | d=>k_is))
   (case c1=>unfold L2.zR;k_is)
   (case c2=>unfold L2.zR;k_is)
   (case c3=>unfold L2.zR;k_is)
   (case c4=>refine' L2.znD (qual:= "Reader.__init__") (st:=Pv.zaW) (ps:=["self","keeper"]) KX G ?n ?mk ?a ?fn ?l ?c ?k ?kc ?b;(case n | mk | a | fn | l | c | k | kc=>k_is);(case b=>intro _ _ _ _ _ _ us hl;obtain⟨_,_,rfl⟩:=Pv.len2 hl;rfl))
   (case c5=>refine' L2.zdd (m:= "refuse_clash") (qual:= "Vault.refuse_clash") (st:=Pv.zad) (ps:=["self","number","thing"]) ?a ?fn ?l ?c ?k ?b;(case a | fn | l | c | k=>k_is);(case b=>intro _ _ _ _ _ _ us hl;obtain⟨_,_,_,rfl⟩:=Pv.len3 hl;rfl))
   (case c6=>refine' L2.zdd (m:= "lay") (qual:= "Reader.lay") (st:=Pv.zb4) (ps:=["self","thing"]) ?a ?fn ?l ?c ?k ?b;(case a | fn | l | c | k=>k_is);(case b=>intro _ _ _ _ _ _ us hl;obtain⟨_,_,rfl⟩:=Pv.len2 hl;rfl))
   (case c7=>refine' L2.zdd (m:= "thing") (qual:= "Reader.thing") (st:=Pv.zbv) (ps:=["self","number"]) ?a ?fn ?l ?c ?k ?b;(case a | fn | l | c | k=>k_is);(case b=>intro _ _ _ _ _ _ us hl;obtain⟨_,_,rfl⟩:=Pv.len2 hl;rfl))
   (case c8=>refine' L2.zdd (m:= "paper") (qual:= "Reader.paper") (st:=Pv.zbw) (ps:=["self"]) ?a ?fn ?l ?c ?k ?b;(case a | fn | l | c | k=>k_is);(case b=>intro _ _ _ _ _ _ us hl;obtain⟨_,rfl⟩:=Pv.len1 hl;rfl))
  have gI:L2.Kdf (L2.KOf KX) mg "Vault" "__init__" "Vault.__init__" Pv.zaq ["self"]:=by
   dsimp only[L2.KOf];refine' L2.zqx (mc:=.type "type") (qual:= "Vault.__init__") (st:=Pv.zaq) (ps:=["self"]) KX G ?n ?g ?rd ?fc ?l ?c ?k ?b
   (case n | g | rd | fc | l | c | k=>k_is)
   (case b=>intro _ _ _ _ _ _ us hl;obtain⟨_,rfl⟩:=Pv.len1 hl;rfl)
  obtain⟨CC,xC,n1,n2,xM,gC⟩:∃C,L2.XId (L2.KOf KX) mg "Clash" C "Clash.__init__" Pv.za5 ["self","one","other"]/\L2.zR (L2.KOf KX) C "one" /\L2.zR (L2.KOf KX) C "other" /\PySem.W.exmOne (L2.KOf KX) (.ref C) (.ref C)=some true/\mg "Clash" =some (.ref C):=by
   dsimp only[L2.KOf];refine' L2.zd3 KX (x:= "Clash") ?n ⟨?c0,?c1,?c2,?c3,?c4⟩
   (case n=>k_is)
   (case c0=>refine' L2.zqf (qual:= "Clash.__init__") (st:=Pv.za5) (ps:=["self","one","other"]) KX G ?n ?cl ?a ?fn ?l ?c ?k ?b;(case n=>k_is);(case cl=>refine' L2.zib ?xq ?xo ?xs ?xg ?xh ?xk;(case xq=>kernel_rfl);(case xo=>kernel_rfl);(case xs | xg | xh | xk=>k_is));(case a | fn | l | c | k=>k_is);(case b=>intro _ _ _ _ _ _ us hl;obtain⟨_,_,_,rfl⟩:=Pv.len3 hl;rfl))
   (case c1=>unfold L2.zR;k_is)
   (case c2=>unfold L2.zR;k_is)
   (case c3=>kernel_rfl)
   (case c4=>refine' PySem.W.mg_of KX G ?z;(case z=>k_is))
  obtain⟨CN,xN,gN⟩:∃C,L2.XP (L2.KOf KX) mg "NoPaper" C/\mg "NoPaper" =some (.ref C):=by
   dsimp only[L2.KOf];refine' L2.zd3 KX (x:= "NoPaper") ?n ⟨?c0,?c1⟩
   (case n=>k_is)
   (case c0=>refine'⟨?cl,?ei,?m⟩;(case cl=>refine' L2.zib ?xq ?xo ?xs ?xg ?xh ?xk;(case xq=>kernel_rfl);(case xo=>kernel_rfl);(case xs | xg | xh | xk=>k_is));(case ei=>kernel_rfl);(case m=>refine' PySem.W.mg_of KX G ?z;(case z=>k_is)))
   (case c1=>refine' PySem.W.mg_of KX G ?z;(case z=>k_is))
  obtain⟨CB,xB,gB⟩:∃C,L2.XP (L2.KOf KX) mg "BadThing" C/\mg "BadThing" =some (.ref C):=by
   dsimp only[L2.KOf];refine' L2.zd3 KX (x:= "BadThing") ?n ⟨?c0,?c1⟩
   (case n=>k_is)
   (case c0=>refine'⟨?cl,?ei,?m⟩;(case cl=>refine' L2.zib ?xq ?xo ?xs ?xg ?xh ?xk;(case xq=>kernel_rfl);(case xo=>kernel_rfl);(case xs | xg | xh | xk=>k_is));(case ei=>kernel_rfl);(case m=>refine' PySem.W.mg_of KX G ?z;(case z=>k_is)))
   (case c1=>refine' PySem.W.mg_of KX G ?z;(case z=>k_is))
  refine' Pv.zqm KX G hmg ?a ?l ?c ?k ?ok
  (case a | l | c | k=>k_is)
  case ok=>
   intro base fd F;have zqV:=Pv.zjG (P:=PySem.Challenge.rw_papervault_k36_what_is_read.prog) (w:=w) (base:=base) zg1 zP;have zpT:=Pv.zp8 (P:=PySem.Challenge.rw_papervault_k36_what_is_read.prog) (w:=w) (base:=base) zkn;have zlk:=Pv.zm3 zix zpT zap zP;have zom:=Pv.zmX (P:=PySem.Challenge.rw_papervault_k36_what_is_read.prog) (w:=w) (base:=base) zjv zap;have zrJ:=Pv.zhO (P:=PySem.Challenge.rw_papervault_k36_what_is_read.prog) (w:=w) (base:=base) zjt m_ord;have zpu:=Pv.zi5 zpp zrJ zv zba zb7 zap zP 10;have zg2:=Pv.zoR zqR zpu;have zqW:=Pv.zpe (P:=PySem.Challenge.rw_papervault_k36_what_is_read.prog) (w:=w) (base:=base) zmm zv zba zb7;have zfV:=Pv.ziE zpq zfi zqW zhE zP zv zcT 9;have zqX:=Pv.zmM (P:=PySem.Challenge.rw_papervault_k36_what_is_read.prog) (w:=w) (base:=base) dI cK nL;have zll:=Pv.zni (P:=PySem.Challenge.rw_papervault_k36_what_is_read.prog) (w:=w) (base:=base) xC n1 n2;have zjz:=Pv.zho dR zll cK nL;have zqY:=Pv.zho dRR zll cR nLR;have zrK:=Pv.zql dL zjz zg2 cK nL;have zjA:=Pv.zlU (P:=PySem.Challenge.rw_papervault_k36_what_is_read.prog) (w:=w) (base:=base) dT xN cK nL;have ziC:=Pv.zlQ (Pv.zlL (mg:=mg) (P:=PySem.Challenge.rw_papervault_k36_what_is_read.prog) (w:=w) (base:=base) dT cK nL);have zjB:=Pv.zmc (P:=PySem.Challenge.rw_papervault_k36_what_is_read.prog) (w:=w) (base:=base) zok zgX;have zon:=Pv.zlw dTs zjB cK nL;have zqZ:=Pv.zmP (P:=PySem.Challenge.rw_papervault_k36_what_is_read.prog) (w:=w) (base:=base) gI cR nLR;have zjC:=Pv.znt dRI zqZ cR nKR nNR;have zq0:=Pv.zow dRL zqY zjz zg2 cR cK nLR nKR;have zoo:=Pv.zlz dRT zjA cR cK nLR nKR nNR;have zlm:=Pv.zn6 dRP zjB cR nNR;have zln:=Pv.zlr (P:=PySem.Challenge.rw_papervault_k36_what_is_read.prog) (w:=w) (base:=base) zkk zv zba zkd;have zq1:=Pv.znd zmo zln;have zop:=Pv.zlT zmn zq1 zln zv zcT zP zaA zaL zak zaa zQ zbm;have zq2:=Pv.zoz zqT zg2;have zlo:=Pv.znq zpr zq2 zfV;have zq3:=Pv.znh zmp zfV zaA zak zaa;have zq4:=Pv.zn9 (P:=PySem.Challenge.rw_papervault_k36_what_is_read.prog) (w:=w) (base:=base) zju zaA zaL zak zaa;have zq5:=Pv.zm8 (P:=PySem.Challenge.rw_papervault_k36_what_is_read.prog) (w:=w) (base:=base) zmq zaA zP;have zpv:=Pv.zmh zkm zlo zaA zdm zP;have zlp:=Pv.zl0 zkl zfV;have tr:=Pv.zpf (Pv.zoH zjA) (Pv.zq8 zrK) cK (λ_ _=>Pv.zo2 zoo) (λ_ _=>Pv.zrh zq0) cR zgZ zop xB zg0 zqS zoh zq3 zq5 zps zqU zoi zq4 zpv zrH zoj zrI zlo zlp zfV zg6 zms zrG zaA zaL zak zaa zQ zac zP za8;have zrL:=Pv.zo3 zmr zlp;have zq6:=Pv.zoA (P:=PySem.Challenge.rw_papervault_k36_what_is_read.prog) (w:=w) (base:=base) zjw zv zba zb7;have zjD:=Pv.zhr ziz zq6 zv zba zb7 zap zP zlg 9;have zpU:=Pv.zqF zko zlk zom;have zpw:=Pv.zmD ziy zlk zom;have zpx:=Pv.zn5 zg7 zjD zap zP;have zoq:=Pv.zo5 zkp ziC cK (L2.Fn.mono zjD (by decide)) zba;have zlq:=Pv.znE zjx ziC cK;have zpy:=Pv.znm zfD zoq zlq;have zpz:=Pv.zmR zjy ziC cK zfg;have zpA:=Pv.znk ziA (λi=>(tr i).1) (λi=>(tr i).2.1) (λi=>(tr i).2.2.1) (λi=>(tr i).2.2.2.1) (λi=>(tr i).2.2.2.2);have zrM:=Pv.zpZ zkq zoq zlq zpy zpz zP;have zq7:=Pv.zoD zd2 zg2 zv zfg zap zP;have zpB:=Pv.zmf ziB zpU zpT zjC zon zlm cK cR zpA zrM zq7 zrL (λi=>(tr i).2.2.2.1) (λi=>(tr i).2.2.2.2) zP;have zor:=Pv.zl9 zg8 zqV zpU zpw zqX zjC zlm cR (tr none).2.1 zpx zpB;exact Pv.zqK F (L2.FnX.mono zor (by decide)) zg2 gC xC.cl n1 n2 xM
#print axioms PySem.Challenge.cw_papervault_k36_what_is_read_holds
