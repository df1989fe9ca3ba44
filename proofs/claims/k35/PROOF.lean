import PyProof.Rows.All
import Wide.All
import OpenK.AllK
import Wide.FinOn
import Lean
import PyProof.EqAt
import PyProof.EqKinds
import PyProof.TupleCall
import PyProof.NeKinds
import PyProof.FactsAll.list
import PyProof.ListMulRoad
import PyProof.FactsAll.tuple
import PyProof.Rows.TupAdd
import PyProof.StationsW
import PyProof.RulesAs
import OpenK.KOwn
import OpenK.KMake
import PyProof.ExcClass3
import PyProof.ExcInit
import PyProof.InstStoreFacts
import PyProof.ExcAttrAll.ValueError
import PyProof.NsDelKeeps
import KE.KTryMore
import KE.KDictSum
import PyProof.Rows.SortWalk
import PyProof.StrOps2
import PyProof.WalkInts
import KE.KIsAll
import OpenK.KCls
import PyProof.DictWalks
import KE.KRevIter
import PyProof.ListNew
import PyProof.EnumMake
import PyProof.EnumFor
import PyProof.SeqI3
import KE.KEqDict
import PyProof.InstEq
import PyProof.ListRange
import PyProof.TupleOfStr
import PyProof.FactsAll.NoneType_1
import PyProof.DictRoadsH
import PySem.Challenge.RW_papervault_k35_no_nodes
set_option Elab.async false
set_option linter.all false
set_option maxRecDepth 100000
set_option maxHeartbeats 4000000
namespace L2
open PySem
def inClass (s:Stmt)(j:Nat):Stmt:=match s with
 | .ClassDef _ _ _ body _ _ _ _ _ _ _=>body.getD j (.Pass ⟨0,0,0,0⟩)
 | _=>.Pass ⟨0,0,0,0⟩
def zav (s:Stmt):Arguments:=match s with
 | .FunctionDef _ a _ _ _ _ _ _ _ _=>a
 | _=>{posonlyargs:=[],args:=[],vararg:=none,kwonlyargs:=[],kw_defaults:=[],kwarg:=none,defaults:=[]}
def zY (s:Stmt):List Stmt:=match s with
 | .FunctionDef _ _ b _ _ _ _ _ _ _=>b
 | _=>[]
def zg (s:Stmt):Scope:=match s with
 | .FunctionDef _ _ _ _ _ _ sc _ _ _=>sc
 | _=>{kind:=.function,names:=[],isGenerator:=false,isCoroutine:=false}
end L2
namespace Pv
open PySem
def top (i:Nat):Stmt:=PySem.Challenge.pw_papervault_k35_no_nodes.main.body.getD i (.Pass ⟨0,0,0,0⟩)
end Pv
namespace Pv
open PySem PySem.W
abbrev dE (P:Params)(x:Str)(t:Nat)(v:Value):DictEntry:=DictEntry.mk (PyData.keyHash P x) (.str x t) v
abbrev cO (n:Str)(a:Nat)(q:Str)(b c:Nat)(l x y z w:Int)(r:Addr)(g:Bool)(r2:Addr)(e1 e2 e3 e4:Value)(t m:Int)(d:Nat):Obj:=.mk (.type "code") none (.fields #[.str n a,.str q b,.str "/claim/cut.py" c,.int l 0,.int x 0,.int y 0,.int z 0,.int w 0,.ref r,.bool g,.int 181 0,.ref r2,e1,e2,e3,e4,.int t 0,.int m 0,.str "/claim/cut.py" d]) #[]
abbrev fO (c:Value)(n q:Str)(st:Stmt)(g:Addr)(cl:List (Str ×Addr))(df kd doc md:Value)(an:Option Addr)(cd ct:Value)(bl:Addr):Obj:=.mk c none (.func (.mk n q (L2.zav st) (.stmts (L2.zY st)) (L2.zg st) g cl df kd doc md an cd ct bl)) #[]
abbrev f0 (n q:Str)(st:Stmt):Obj:=fO .none n q st 0 [] .none .none .none .none none .none .none 0
abbrev f1 (n q:Str)(st:Stmt)(m:Str)(k:Nat)(r:Addr):Obj:=fO (.type "function") n q st 3 [] .none .none .none (.str m k) none (.ref r) .none 0
abbrev tO (a:Array Value):Obj:=.mk (.type "tuple") none (.seq a) #[]
abbrev dO (a:Array DictEntry)(n:Nat):Obj:=.mk (.type "dict") none (.dict a n) #[]
def sp:List Obj→List Obj ×List Obj
 | []=>([],[])
 | x::r=>(x::(sp r).2,(sp r).1)
def bt:Nat→List Obj→BT
 | 0,_=>.nil
 | _+1,[]=>.nil
 | n+1,x::r=>.node x (bt n (sp r).1) (bt n (sp r).2)
def wv:List Nat→List Obj→List Obj→List Obj
 | [],_,_=>[]
 | n::r,a,b=>a.take n++wv r b (a.drop n)
noncomputable section
abbrev oo0 (P:Params):Obj:=dO #[dE P "__name__" 165 (.str "__main__" 164),dE P "__doc__" 166 .none,dE P "__package__" 167 .none,dE P "__loader__" 168 (.builtin "__main__.__loader__#opaque"),dE P "__spec__" 169 .none,dE P "__annotations__" 170 (.ref 6),dE P "__builtins__" 171 (.ref 4),dE P "__file__" 173 (.str "/claim/cut.py" 172),dE P "__cached__" 174 .none] 9
abbrev oo1 (P:Params):Obj:=dO #[dE P "__name__" 165 (.str "papervault.nodes" 375),dE P "__doc__" 166 .none,dE P "__package__" 167 .none,dE P "__loader__" 168 (.builtin "__main__.__loader__#opaque"),dE P "__spec__" 169 .none,dE P "__annotations__" 170 (.ref 6),dE P "__builtins__" 171 (.ref 4),dE P "__file__" 173 (.str "/claim/cut.py" 172),dE P "__cached__" 174 .none,dE P "VaultError" 206 (.ref 24),dE P "NoThing" 222 (.ref 37),dE P "NoPaper" 238 (.ref 49),dE P "BadThing" 254 (.ref 61),dE P "Clash" 281 (.ref 80),dE P "NotOn" 297 (.ref 92),dE P "NoState" 313 (.ref 104),dE P "seal" 324 (.ref 113),dE P "codes" 330 (.ref 118),dE P "number_of" 339 (.ref 125),dE P "is_whole" 348 (.ref 132),dE P "kind_of" 355 (.ref 139),dE P "ahead" 364 (.ref 146),dE P "is_tuple_ahead" 374 (.ref 153),dE P "KEY" 378 (.int 0 377),dE P "WORTH" 380 (.int 1 379),dE P "LEFT" 382 (.int 2 381),dE P "RIGHT" 384 (.int 3 383),dE P "COUNT" 386 (.int 4 385),dE P "MOST_NODES" 388 (.int 300 387)] 29
abbrev oo2 (P:Params):Obj:=.mk .none none (.fields #[.int 2 0,.int 0 0,.ref 20,.int 4 0,.int 0 0,.ref 33,.int 6 0,.int 0 0,.ref 45,.int 8 0,.int 0 0,.ref 57,.int 10 0,.int 0 0,.ref 69,.int 15 0,.int 0 0,.ref 88,.int 17 0,.int 0 0,.ref 100,.int 20 0,.int 0 0,.ref 112,.int 25 0,.int 0 0,.ref 117,.int 38 0,.int 0 0,.ref 124,.int 44 0,.int 0 0,.ref 131,.int 46 0,.int 0 0,.ref 138,.int 54 0,.int 0 0,.ref 145,.int 63 0,.int 0 0,.ref 152]) #[]
abbrev oo3 (P:Params):Obj:=dO #[dE P "__name__" 165 (.str "law_papervault_k35_no_nodes" 777),dE P "__doc__" 166 .none,dE P "__package__" 167 .none,dE P "__loader__" 168 (.builtin "__main__.__loader__#opaque"),dE P "__spec__" 169 .none,dE P "__annotations__" 170 (.ref 6),dE P "__builtins__" 171 (.ref 4),dE P "__file__" 173 (.str "/claim/cut.py" 172),dE P "__cached__" 174 .none,dE P "VaultError" 206 (.ref 24),dE P "NoThing" 222 (.ref 37),dE P "NoPaper" 238 (.ref 49),dE P "BadThing" 254 (.ref 61),dE P "Clash" 281 (.ref 80),dE P "NotOn" 297 (.ref 92),dE P "NoState" 313 (.ref 104),dE P "seal" 324 (.ref 113),dE P "codes" 330 (.ref 118),dE P "number_of" 339 (.ref 125),dE P "is_whole" 348 (.ref 132),dE P "kind_of" 355 (.ref 139),dE P "ahead" 364 (.ref 146),dE P "is_tuple_ahead" 374 (.ref 153),dE P "KEY" 378 (.int 0 377),dE P "WORTH" 380 (.int 1 379),dE P "LEFT" 382 (.int 2 381),dE P "RIGHT" 384 (.int 3 383),dE P "COUNT" 386 (.int 4 385),dE P "MOST_NODES" 388 (.int 300 387),dE P "BENEATH_NONE" 390 (.int 301 389),dE P "node_at" 398 (.ref 160),dE P "node_beneath" 408 (.ref 167),dE P "is_node" 415 (.ref 174),dE P "is_root" 422 (.ref 181),dE P "size" 430 (.ref 188),dE P "size_beneath" 439 (.ref 195),dE P "rank" 446 (.ref 202),dE P "above" 456 (.ref 209),dE P "side_of" 466 (.ref 216),dE P "way_to" 478 (.ref 223),dE P "ends_at" 486 (.ref 230),dE P "found" 496 (.ref 237),dE P "is_empty" 504 (.ref 244),dE P "goes_left" 512 (.ref 251),dE P "goes_right" 520 (.ref 258),dE P "refuse_sum" 530 (.ref 265),dE P "stretch" 544 (.ref 272),dE P "count_ahead" 555 (.ref 279),dE P "counted" 566 (.ref 286),dE P "nth" 578 (.ref 293),dE P "with_tree" 588 (.ref 300),dE P "hung" 600 (.ref 307),dE P "parted" 616 (.ref 314),dE P "part" 627 (.ref 321),dE P "place_in" 637 (.ref 328),dE P "put" 653 (.ref 335),dE P "cut" 664 (.ref 342),dE P "join" 673 (.ref 349),dE P "joined" 691 (.ref 356),dE P "rising" 699 (.ref 361),dE P "Vault" 753 (.ref 399),dE P "Keeper" 776 (.ref 420),dE P "_law_cell_at" 786 (.ref 429),dE P "_law_mix" 795 (.ref 436),dE P "_law_parts" 807 (.ref 443),dE P "_law_text" 818 (.ref 450),dE P "_law_key" 828 (.ref 457),dE P "_law_worth" 837 (.ref 464),dE P "_law_sort" 844 (.ref 471)] 69
abbrev oo4 (P:Params):Obj:=.mk .none none (.fields #[.int 2 0,.int 0 0,.ref 20,.int 4 0,.int 0 0,.ref 33,.int 6 0,.int 0 0,.ref 45,.int 8 0,.int 0 0,.ref 57,.int 10 0,.int 0 0,.ref 69,.int 15 0,.int 0 0,.ref 88,.int 17 0,.int 0 0,.ref 100,.int 20 0,.int 0 0,.ref 112,.int 25 0,.int 0 0,.ref 117,.int 38 0,.int 0 0,.ref 124,.int 44 0,.int 0 0,.ref 131,.int 46 0,.int 0 0,.ref 138,.int 54 0,.int 0 0,.ref 145,.int 63 0,.int 0 0,.ref 152,.int 76 0,.int 0 0,.ref 159,.int 78 0,.int 0 0,.ref 166,.int 83 0,.int 0 0,.ref 173,.int 91 0,.int 0 0,.ref 180,.int 93 0,.int 0 0,.ref 187,.int 95 0,.int 0 0,.ref 194,.int 99 0,.int 0 0,.ref 201,.int 101 0,.int 0 0,.ref 208,.int 108 0,.int 0 0,.ref 215,.int 110 0,.int 0 0,.ref 222,.int 121 0,.int 0 0,.ref 229,.int 123 0,.int 0 0,.ref 236,.int 126 0,.int 0 0,.ref 243,.int 128 0,.int 0 0,.ref 250,.int 130 0,.int 0 0,.ref 257,.int 132 0,.int 0 0,.ref 264,.int 137 0,.int 0 0,.ref 271,.int 158 0,.int 0 0,.ref 278,.int 167 0,.int 0 0,.ref 285,.int 174 0,.int 0 0,.ref 292,.int 192 0,.int 0 0,.ref 299,.int 196 0,.int 0 0,.ref 306,.int 200 0,.int 0 0,.ref 313,.int 213 0,.int 0 0,.ref 320,.int 219 0,.int 0 0,.ref 327,.int 224 0,.int 0 0,.ref 334,.int 235 0,.int 0 0,.ref 341,.int 241 0,.int 0 0,.ref 348,.int 243 0,.int 0 0,.ref 355,.int 264 0,.int 0 0,.ref 360,.int 266 0,.int 0 0,.ref 367,.int 285 0,.int 0 0,.ref 409,.int 290 0,.int 0 0,.ref 428,.int 294 0,.int 0 0,.ref 435,.int 298 0,.int 0 0,.ref 442,.int 308 0,.int 0 0,.ref 449,.int 316 0,.int 0 0,.ref 456,.int 321 0,.int 0 0,.ref 463,.int 324 0,.int 0 0,.ref 470]) #[]
def KK:Params→Frag:=fun P=>
List.cons (Prod.mk (nat_lit 2) (.mk .none none (.dict #[]) #[])) (
List.cons (Prod.mk (nat_lit 3) (dO #[dE P "__name__" 165 (.str "law_papervault_k35_no_nodes" 777),dE P "__doc__" 166 .none,dE P "__package__" 167 .none,dE P "__loader__" 168 (.builtin "__main__.__loader__#opaque"),dE P "__spec__" 169 .none,dE P "__annotations__" 170 (.ref 6),dE P "__builtins__" 171 (.ref 4),dE P "__file__" 173 (.str "/claim/cut.py" 172),dE P "__cached__" 174 .none,dE P "VaultError" 206 (.ref 24),dE P "NoThing" 222 (.ref 37),dE P "NoPaper" 238 (.ref 49),dE P "BadThing" 254 (.ref 61),dE P "Clash" 281 (.ref 80),dE P "NotOn" 297 (.ref 92),dE P "NoState" 313 (.ref 104),dE P "seal" 324 (.ref 113),dE P "codes" 330 (.ref 118),dE P "number_of" 339 (.ref 125),dE P "is_whole" 348 (.ref 132),dE P "kind_of" 355 (.ref 139),dE P "ahead" 364 (.ref 146),dE P "is_tuple_ahead" 374 (.ref 153),dE P "KEY" 378 (.int 0 377),dE P "WORTH" 380 (.int 1 379),dE P "LEFT" 382 (.int 2 381),dE P "RIGHT" 384 (.int 3 383),dE P "COUNT" 386 (.int 4 385),dE P "MOST_NODES" 388 (.int 300 387),dE P "BENEATH_NONE" 390 (.int 301 389),dE P "node_at" 398 (.ref 160),dE P "node_beneath" 408 (.ref 167),dE P "is_node" 415 (.ref 174),dE P "is_root" 422 (.ref 181),dE P "size" 430 (.ref 188),dE P "size_beneath" 439 (.ref 195),dE P "rank" 446 (.ref 202),dE P "above" 456 (.ref 209),dE P "side_of" 466 (.ref 216),dE P "way_to" 478 (.ref 223),dE P "ends_at" 486 (.ref 230),dE P "found" 496 (.ref 237),dE P "is_empty" 504 (.ref 244),dE P "goes_left" 512 (.ref 251),dE P "goes_right" 520 (.ref 258),dE P "refuse_sum" 530 (.ref 265),dE P "stretch" 544 (.ref 272),dE P "count_ahead" 555 (.ref 279),dE P "counted" 566 (.ref 286),dE P "nth" 578 (.ref 293),dE P "with_tree" 588 (.ref 300),dE P "hung" 600 (.ref 307),dE P "parted" 616 (.ref 314),dE P "part" 627 (.ref 321),dE P "place_in" 637 (.ref 328),dE P "put" 653 (.ref 335),dE P "cut" 664 (.ref 342),dE P "join" 673 (.ref 349),dE P "joined" 691 (.ref 356),dE P "rising" 699 (.ref 361),dE P "Vault" 753 (.ref 399),dE P "Keeper" 776 (.ref 420),dE P "_law_cell_at" 786 (.ref 429),dE P "_law_mix" 795 (.ref 436),dE P "_law_parts" 807 (.ref 443),dE P "_law_text" 818 (.ref 450),dE P "_law_key" 828 (.ref 457),dE P "_law_worth" 837 (.ref 464),dE P "_law_sort" 844 (.ref 471),dE P "_law_ahead" 853 (.ref 478),dE P "_law_put_in" 863 (.ref 485),dE P "_law_none" 869 (.ref 490),dE P "_law_beside" 879 (.ref 497),dE P "_law_asked" 889 (.ref 504),dE P "_law_refused" 903 (.ref 511),dE P "_law_three" 913 (.ref 518),dE P "_law_uneven" 919 (.ref 523),dE P "_law_cut_itself" 933 (.ref 530),dE P "_law_unread" 945 (.ref 537),dE P "_law_right" 964 (.ref 544),dE P "_law_walked" 973 (.ref 551),dE P "law" 983 (.ref 558)] 82)) (
List.cons (Prod.mk (nat_lit 15) (tO #[.type "ValueError"])) (
List.cons (Prod.mk (nat_lit 22) (tO #[])) (
List.cons (Prod.mk (nat_lit 23) (dO #[dE P "__module__" 196 (.str "papervault.errors" 187),dE P "__firstlineno__" 200 (.int 2 199),dE P "__static_attributes__" 201 (.ref 22),dE P "__weakref__" 203 (.ref 25),dE P "__doc__" 204 .none] 3)) (
List.cons (Prod.mk (nat_lit 24) (.mk (.type "type") none (.cls (ClassData.mk "VaultError" [.type "ValueError"] [.ref 24,.type "ValueError",.type "Exception",.type "BaseException",.type "object"] 23 "VaultError" true [] [.ref 37,.ref 49,.ref 61,.ref 80,.ref 92,.ref 104] false none false)) #[some (.ref 15),none,some (.str "VaultError" 189),some (.str "VaultError" 197),some (.builtin "ValueError.__new__"),some (.bool true)])) (
List.cons (Prod.mk (nat_lit 25) (.mk (.type "getset_descriptor") none (.fields #[.str "__weakref__" 202,.ref 24,.builtin "ExceptionGroup.__weakref__",.none]) #[])) (
List.cons (Prod.mk (nat_lit 28) (tO #[.ref 24])) (
List.cons (Prod.mk (nat_lit 35) (tO #[])) (
List.cons (Prod.mk (nat_lit 36) (dO #[dE P "__module__" 214 (.str "papervault.errors" 187),dE P "__firstlineno__" 218 (.int 4 217),dE P "__static_attributes__" 219 (.ref 35),dE P "__doc__" 220 .none] 2)) (
List.cons (Prod.mk (nat_lit 37) (.mk (.type "type") none (.cls (ClassData.mk "NoThing" [.ref 24] [.ref 37,.ref 24,.type "ValueError",.type "Exception",.type "BaseException",.type "object"] 36 "NoThing" true [] [] false none false)) #[some (.ref 28),none,some (.str "NoThing" 207),some (.str "NoThing" 215),some (.builtin "ValueError.__new__"),some (.bool true)])) (
List.cons (Prod.mk (nat_lit 40) (tO #[.ref 24])) (
List.cons (Prod.mk (nat_lit 47) (tO #[])) (
List.cons (Prod.mk (nat_lit 48) (dO #[dE P "__module__" 230 (.str "papervault.errors" 187),dE P "__firstlineno__" 234 (.int 6 233),dE P "__static_attributes__" 235 (.ref 47),dE P "__doc__" 236 .none] 2)) (
List.cons (Prod.mk (nat_lit 49) (.mk (.type "type") none (.cls (ClassData.mk "NoPaper" [.ref 24] [.ref 49,.ref 24,.type "ValueError",.type "Exception",.type "BaseException",.type "object"] 48 "NoPaper" true [] [] false none false)) #[some (.ref 40),none,some (.str "NoPaper" 223),some (.str "NoPaper" 231),some (.builtin "ValueError.__new__"),some (.bool true)])) (
List.cons (Prod.mk (nat_lit 52) (tO #[.ref 24])) (
List.cons (Prod.mk (nat_lit 59) (tO #[])) (
List.cons (Prod.mk (nat_lit 60) (dO #[dE P "__module__" 246 (.str "papervault.errors" 187),dE P "__firstlineno__" 250 (.int 8 249),dE P "__static_attributes__" 251 (.ref 59),dE P "__doc__" 252 .none] 2)) (
List.cons (Prod.mk (nat_lit 61) (.mk (.type "type") none (.cls (ClassData.mk "BadThing" [.ref 24] [.ref 61,.ref 24,.type "ValueError",.type "Exception",.type "BaseException",.type "object"] 60 "BadThing" true [] [] false none false)) #[some (.ref 52),none,some (.str "BadThing" 239),some (.str "BadThing" 247),some (.builtin "ValueError.__new__"),some (.bool true)])) (
List.cons (Prod.mk (nat_lit 64) (tO #[.ref 24])) (
List.cons (Prod.mk (nat_lit 71) (tO #[])) (
List.cons (Prod.mk (nat_lit 73) (tO #[.str "self" 270,.str "one" 271,.str "other" 272])) (
List.cons (Prod.mk (nat_lit 74) (tO #[])) (
List.cons (Prod.mk (nat_lit 76) (cO "__init__" 267 "Clash.__init__" 268 269 12 3 0 0 3 71 true 72 .none (.ref 73) (.ref 74) (.ref 75) 273 12 274)) (
List.cons (Prod.mk (nat_lit 77) (f1 "__init__" "Clash.__init__" (L2.inClass (Pv.top 5) 0) "papervault.errors" 187 76)) (
List.cons (Prod.mk (nat_lit 78) (tO #[.str "one" 276,.str "other" 277])) (
List.cons (Prod.mk (nat_lit 79) (dO #[dE P "__module__" 262 (.str "papervault.errors" 187),dE P "__firstlineno__" 266 (.int 10 265),dE P "__init__" 275 (.ref 77),dE P "__static_attributes__" 278 (.ref 78),dE P "__doc__" 279 .none] 2)) (
List.cons (Prod.mk (nat_lit 80) (.mk (.type "type") none (.cls (ClassData.mk "Clash" [.ref 24] [.ref 80,.ref 24,.type "ValueError",.type "Exception",.type "BaseException",.type "object"] 79 "Clash" true [] [] false none false)) #[some (.ref 64),none,some (.str "Clash" 255),some (.str "Clash" 263),some (.builtin "ValueError.__new__"),some (.bool true)])) (
List.cons (Prod.mk (nat_lit 83) (tO #[.ref 24])) (
List.cons (Prod.mk (nat_lit 90) (tO #[])) (
List.cons (Prod.mk (nat_lit 91) (dO #[dE P "__module__" 289 (.str "papervault.errors" 187),dE P "__firstlineno__" 293 (.int 15 292),dE P "__static_attributes__" 294 (.ref 90),dE P "__doc__" 295 .none] 2)) (
List.cons (Prod.mk (nat_lit 92) (.mk (.type "type") none (.cls (ClassData.mk "NotOn" [.ref 24] [.ref 92,.ref 24,.type "ValueError",.type "Exception",.type "BaseException",.type "object"] 91 "NotOn" true [] [] false none false)) #[some (.ref 83),none,some (.str "NotOn" 282),some (.str "NotOn" 290),some (.builtin "ValueError.__new__"),some (.bool true)])) (
List.cons (Prod.mk (nat_lit 95) (tO #[.ref 24])) (
List.cons (Prod.mk (nat_lit 102) (tO #[])) (
List.cons (Prod.mk (nat_lit 103) (dO #[dE P "__module__" 305 (.str "papervault.errors" 187),dE P "__firstlineno__" 309 (.int 17 308),dE P "__static_attributes__" 310 (.ref 102),dE P "__doc__" 311 .none] 2)) (
List.cons (Prod.mk (nat_lit 104) (.mk (.type "type") none (.cls (ClassData.mk "NoState" [.ref 24] [.ref 104,.ref 24,.type "ValueError",.type "Exception",.type "BaseException",.type "object"] 103 "NoState" true [] [] false none false)) #[some (.ref 95),none,some (.str "NoState" 298),some (.str "NoState" 306),some (.builtin "ValueError.__new__"),some (.bool true)])) (
List.cons (Prod.mk (nat_lit 107) (tO #[])) (
List.cons (Prod.mk (nat_lit 109) (tO #[.str "thing" 319,.str "folded" 320,.str "code" 321])) (
List.cons (Prod.mk (nat_lit 110) (tO #[])) (
List.cons (Prod.mk (nat_lit 112) (cO "seal" 316 "seal" 317 318 20 1 0 0 3 107 true 108 .none (.ref 109) (.ref 110) (.ref 111) 322 20 323)) (
List.cons (Prod.mk (nat_lit 113) (f1 "seal" "seal" (Pv.top 9) "papervault.seals" 314 112)) (
List.cons (Prod.mk (nat_lit 114) (tO #[])) (
List.cons (Prod.mk (nat_lit 117) (cO "codes" 325 "codes" 326 327 25 1 0 0 3 114 true 115 .none .none .none (.ref 116) 328 25 329)) (
List.cons (Prod.mk (nat_lit 118) (f1 "codes" "codes" (Pv.top 10) "papervault.seals" 314 117)) (
List.cons (Prod.mk (nat_lit 119) (tO #[])) (
List.cons (Prod.mk (nat_lit 121) (tO #[.str "signs" 334,.str "number" 335,.str "sign" 336])) (
List.cons (Prod.mk (nat_lit 122) (tO #[])) (
List.cons (Prod.mk (nat_lit 124) (cO "number_of" 331 "number_of" 332 333 38 1 0 0 3 119 true 120 .none (.ref 121) (.ref 122) (.ref 123) 337 38 338)) (
List.cons (Prod.mk (nat_lit 125) (f1 "number_of" "number_of" (Pv.top 11) "papervault.seals" 314 124)) (
List.cons (Prod.mk (nat_lit 126) (tO #[])) (
List.cons (Prod.mk (nat_lit 128) (tO #[.str "value" 345])) (
List.cons (Prod.mk (nat_lit 129) (tO #[])) (
List.cons (Prod.mk (nat_lit 131) (cO "is_whole" 342 "is_whole" 343 344 44 1 0 0 3 126 true 127 .none (.ref 128) (.ref 129) (.ref 130) 346 44 347)) (
List.cons (Prod.mk (nat_lit 132) (f1 "is_whole" "is_whole" (Pv.top 13) "papervault.things" 340 131)) (
List.cons (Prod.mk (nat_lit 133) (tO #[])) (
List.cons (Prod.mk (nat_lit 135) (tO #[.str "thing" 352])) (
List.cons (Prod.mk (nat_lit 136) (tO #[])) (
List.cons (Prod.mk (nat_lit 138) (cO "kind_of" 349 "kind_of" 350 351 46 1 0 0 3 133 true 134 .none (.ref 135) (.ref 136) (.ref 137) 353 46 354)) (
List.cons (Prod.mk (nat_lit 139) (f1 "kind_of" "kind_of" (Pv.top 14) "papervault.things" 340 138)) (
List.cons (Prod.mk (nat_lit 140) (tO #[])) (
List.cons (Prod.mk (nat_lit 142) (tO #[.str "one" 359,.str "other" 360,.str "kind" 361])) (
List.cons (Prod.mk (nat_lit 143) (tO #[])) (
List.cons (Prod.mk (nat_lit 145) (cO "ahead" 356 "ahead" 357 358 54 2 0 0 3 140 true 141 .none (.ref 142) (.ref 143) (.ref 144) 362 54 363)) (
List.cons (Prod.mk (nat_lit 146) (f1 "ahead" "ahead" (Pv.top 15) "papervault.things" 340 145)) (
List.cons (Prod.mk (nat_lit 147) (tO #[])) (
List.cons (Prod.mk (nat_lit 149) (tO #[.str "one" 368,.str "other" 369,.str "mine" 370,.str "its" 371])) (
List.cons (Prod.mk (nat_lit 150) (tO #[])) (
List.cons (Prod.mk (nat_lit 152) (cO "is_tuple_ahead" 365 "is_tuple_ahead" 366 367 63 2 0 0 3 147 true 148 .none (.ref 149) (.ref 150) (.ref 151) 372 63 373)) (
List.cons (Prod.mk (nat_lit 153) (f1 "is_tuple_ahead" "is_tuple_ahead" (Pv.top 16) "papervault.things" 340 152)) (
List.cons (Prod.mk (nat_lit 154) (tO #[])) (
List.cons (Prod.mk (nat_lit 156) (tO #[.str "vault" 394,.str "root" 395])) (
List.cons (Prod.mk (nat_lit 157) (tO #[])) (
List.cons (Prod.mk (nat_lit 159) (cO "node_at" 391 "node_at" 392 393 76 2 0 0 3 154 true 155 .none (.ref 156) (.ref 157) (.ref 158) 396 76 397)) (
List.cons (Prod.mk (nat_lit 160) (f1 "node_at" "node_at" (Pv.top 25) "papervault.nodes" 375 159)) (
List.cons (Prod.mk (nat_lit 161) (tO #[])) (
List.cons (Prod.mk (nat_lit 163) (tO #[.str "vault" 402,.str "root" 403,.str "count" 404,.str "node" 405])) (
List.cons (Prod.mk (nat_lit 164) (tO #[])) (
List.cons (Prod.mk (nat_lit 166) (cO "node_beneath" 399 "node_beneath" 400 401 78 3 0 0 3 161 true 162 .none (.ref 163) (.ref 164) (.ref 165) 406 78 407)) (
List.cons (Prod.mk (nat_lit 167) (f1 "node_beneath" "node_beneath" (Pv.top 26) "papervault.nodes" 375 166)) (
List.cons (Prod.mk (nat_lit 168) (tO #[])) (
List.cons (Prod.mk (nat_lit 170) (tO #[.str "thing" 412])) (
List.cons (Prod.mk (nat_lit 171) (tO #[])) (
List.cons (Prod.mk (nat_lit 173) (cO "is_node" 409 "is_node" 410 411 83 1 0 0 3 168 true 169 .none (.ref 170) (.ref 171) (.ref 172) 413 83 414)) (
List.cons (Prod.mk (nat_lit 174) (f1 "is_node" "is_node" (Pv.top 27) "papervault.nodes" 375 173)) (
List.cons (Prod.mk (nat_lit 175) (tO #[])) (
List.cons (Prod.mk (nat_lit 177) (tO #[.str "thing" 419])) (
List.cons (Prod.mk (nat_lit 178) (tO #[])) (
List.cons (Prod.mk (nat_lit 180) (cO "is_root" 416 "is_root" 417 418 91 1 0 0 3 175 true 176 .none (.ref 177) (.ref 178) (.ref 179) 420 91 421)) (
List.cons (Prod.mk (nat_lit 181) (f1 "is_root" "is_root" (Pv.top 28) "papervault.nodes" 375 180)) (
List.cons (Prod.mk (nat_lit 182) (tO #[])) (
List.cons (Prod.mk (nat_lit 184) (tO #[.str "vault" 426,.str "root" 427])) (
List.cons (Prod.mk (nat_lit 185) (tO #[])) (
List.cons (Prod.mk (nat_lit 187) (cO "size" 423 "size" 424 425 93 2 0 0 3 182 true 183 .none (.ref 184) (.ref 185) (.ref 186) 428 93 429)) (
List.cons (Prod.mk (nat_lit 188) (f1 "size" "size" (Pv.top 29) "papervault.nodes" 375 187)) (
List.cons (Prod.mk (nat_lit 189) (tO #[])) (
List.cons (Prod.mk (nat_lit 191) (tO #[.str "vault" 434,.str "root" 435,.str "count" 436])) (
List.cons (Prod.mk (nat_lit 192) (tO #[])) (
List.cons (Prod.mk (nat_lit 194) (cO "size_beneath" 431 "size_beneath" 432 433 95 3 0 0 3 189 true 190 .none (.ref 191) (.ref 192) (.ref 193) 437 95 438)) (
List.cons (Prod.mk (nat_lit 195) (f1 "size_beneath" "size_beneath" (Pv.top 30) "papervault.nodes" 375 194)) (
List.cons (Prod.mk (nat_lit 196) (tO #[])) (
List.cons (Prod.mk (nat_lit 198) (tO #[.str "key" 443])) (
List.cons (Prod.mk (nat_lit 199) (tO #[])) (
List.cons (Prod.mk (nat_lit 201) (cO "rank" 440 "rank" 441 442 99 1 0 0 3 196 true 197 .none (.ref 198) (.ref 199) (.ref 200) 444 99 445)) (
List.cons (Prod.mk (nat_lit 202) (f1 "rank" "rank" (Pv.top 31) "papervault.nodes" 375 201)) (
List.cons (Prod.mk (nat_lit 203) (tO #[])) (
List.cons (Prod.mk (nat_lit 205) (tO #[.str "key" 450,.str "other" 451,.str "mine" 452,.str "its" 453])) (
List.cons (Prod.mk (nat_lit 206) (tO #[])) (
List.cons (Prod.mk (nat_lit 208) (cO "above" 447 "above" 448 449 101 2 0 0 3 203 true 204 .none (.ref 205) (.ref 206) (.ref 207) 454 101 455)) (
List.cons (Prod.mk (nat_lit 209) (f1 "above" "above" (Pv.top 32) "papervault.nodes" 375 208)) (
List.cons (Prod.mk (nat_lit 210) (tO #[])) (
List.cons (Prod.mk (nat_lit 212) (tO #[.str "node" 462,.str "key" 463])) (
List.cons (Prod.mk (nat_lit 213) (tO #[])) (
List.cons (Prod.mk (nat_lit 215) (cO "side_of" 459 "side_of" 460 461 108 2 0 0 3 210 true 211 .none (.ref 212) (.ref 213) (.ref 214) 464 108 465)) (
List.cons (Prod.mk (nat_lit 216) (f1 "side_of" "side_of" (Pv.top 34) "papervault.trees" 457 215)) (
List.cons (Prod.mk (nat_lit 217) (tO #[])) (
List.cons (Prod.mk (nat_lit 219) (tO #[.str "vault" 470,.str "root" 471,.str "key" 472,.str "way" 473,.str "count" 474,.str "node" 475])) (
List.cons (Prod.mk (nat_lit 220) (tO #[])) (
List.cons (Prod.mk (nat_lit 222) (cO "way_to" 467 "way_to" 468 469 110 3 0 0 3 217 true 218 .none (.ref 219) (.ref 220) (.ref 221) 476 110 477)) (
List.cons (Prod.mk (nat_lit 223) (f1 "way_to" "way_to" (Pv.top 35) "papervault.trees" 457 222)) (
List.cons (Prod.mk (nat_lit 224) (tO #[])) (
List.cons (Prod.mk (nat_lit 226) (tO #[.str "way" 482,.str "key" 483])) (
List.cons (Prod.mk (nat_lit 227) (tO #[])) (
List.cons (Prod.mk (nat_lit 229) (cO "ends_at" 479 "ends_at" 480 481 121 2 0 0 3 224 true 225 .none (.ref 226) (.ref 227) (.ref 228) 484 121 485)) (
List.cons (Prod.mk (nat_lit 230) (f1 "ends_at" "ends_at" (Pv.top 36) "papervault.trees" 457 229)) (
List.cons (Prod.mk (nat_lit 231) (tO #[])) (
List.cons (Prod.mk (nat_lit 233) (tO #[.str "vault" 490,.str "root" 491,.str "key" 492,.str "way" 493])) (
List.cons (Prod.mk (nat_lit 234) (tO #[])) (
List.cons (Prod.mk (nat_lit 236) (cO "found" 487 "found" 488 489 123 3 0 0 3 231 true 232 .none (.ref 233) (.ref 234) (.ref 235) 494 123 495)) (
List.cons (Prod.mk (nat_lit 237) (f1 "found" "found" (Pv.top 37) "papervault.trees" 457 236)) (
List.cons (Prod.mk (nat_lit 238) (tO #[])) (
List.cons (Prod.mk (nat_lit 240) (tO #[.str "low" 500,.str "high" 501])) (
List.cons (Prod.mk (nat_lit 241) (tO #[])) (
List.cons (Prod.mk (nat_lit 243) (cO "is_empty" 497 "is_empty" 498 499 126 2 0 0 3 238 true 239 .none (.ref 240) (.ref 241) (.ref 242) 502 126 503)) (
List.cons (Prod.mk (nat_lit 244) (f1 "is_empty" "is_empty" (Pv.top 38) "papervault.trees" 457 243)) (
List.cons (Prod.mk (nat_lit 245) (tO #[])) (
List.cons (Prod.mk (nat_lit 247) (tO #[.str "node" 508,.str "low" 509])) (
List.cons (Prod.mk (nat_lit 248) (tO #[])) (
List.cons (Prod.mk (nat_lit 250) (cO "goes_left" 505 "goes_left" 506 507 128 2 0 0 3 245 true 246 .none (.ref 247) (.ref 248) (.ref 249) 510 128 511)) (
List.cons (Prod.mk (nat_lit 251) (f1 "goes_left" "goes_left" (Pv.top 39) "papervault.trees" 457 250)) (
List.cons (Prod.mk (nat_lit 252) (tO #[])) (
List.cons (Prod.mk (nat_lit 254) (tO #[.str "node" 516,.str "high" 517])) (
List.cons (Prod.mk (nat_lit 255) (tO #[])) (
List.cons (Prod.mk (nat_lit 257) (cO "goes_right" 513 "goes_right" 514 515 130 2 0 0 3 252 true 253 .none (.ref 254) (.ref 255) (.ref 256) 518 130 519)) (
List.cons (Prod.mk (nat_lit 258) (f1 "goes_right" "goes_right" (Pv.top 40) "papervault.trees" 457 257)) (
List.cons (Prod.mk (nat_lit 259) (tO #[])) (
List.cons (Prod.mk (nat_lit 261) (tO #[.str "vault" 524,.str "node" 525,.str "left" 526,.str "right" 527])) (
List.cons (Prod.mk (nat_lit 262) (tO #[])) (
List.cons (Prod.mk (nat_lit 264) (cO "refuse_sum" 521 "refuse_sum" 522 523 132 2 0 0 3 259 true 260 .none (.ref 261) (.ref 262) (.ref 263) 528 132 529)) (
List.cons (Prod.mk (nat_lit 265) (f1 "refuse_sum" "refuse_sum" (Pv.top 41) "papervault.trees" 457 264)) (
List.cons (Prod.mk (nat_lit 266) (tO #[])) (
List.cons (Prod.mk (nat_lit 268) (tO #[.str "vault" 534,.str "root" 535,.str "low" 536,.str "high" 537,.str "pairs" 538,.str "begun" 539,.str "count" 540,.str "node" 541])) (
List.cons (Prod.mk (nat_lit 269) (tO #[])) (
List.cons (Prod.mk (nat_lit 271) (cO "stretch" 531 "stretch" 532 533 137 4 0 0 3 266 true 267 .none (.ref 268) (.ref 269) (.ref 270) 542 137 543)) (
List.cons (Prod.mk (nat_lit 272) (f1 "stretch" "stretch" (Pv.top 42) "papervault.trees" 457 271)) (
List.cons (Prod.mk (nat_lit 273) (tO #[])) (
List.cons (Prod.mk (nat_lit 275) (tO #[.str "vault" 548,.str "root" 549,.str "key" 550,.str "many" 551,.str "node" 552])) (
List.cons (Prod.mk (nat_lit 276) (tO #[])) (
List.cons (Prod.mk (nat_lit 278) (cO "count_ahead" 545 "count_ahead" 546 547 158 3 0 0 3 273 true 274 .none (.ref 275) (.ref 276) (.ref 277) 553 158 554)) (
List.cons (Prod.mk (nat_lit 279) (f1 "count_ahead" "count_ahead" (Pv.top 43) "papervault.trees" 457 278)) (
List.cons (Prod.mk (nat_lit 280) (tO #[])) (
List.cons (Prod.mk (nat_lit 282) (tO #[.str "vault" 559,.str "root" 560,.str "low" 561,.str "high" 562,.str "many" 563])) (
List.cons (Prod.mk (nat_lit 283) (tO #[])) (
List.cons (Prod.mk (nat_lit 285) (cO "counted" 556 "counted" 557 558 167 4 0 0 3 280 true 281 .none (.ref 282) (.ref 283) (.ref 284) 564 167 565)) (
List.cons (Prod.mk (nat_lit 286) (f1 "counted" "counted" (Pv.top 44) "papervault.trees" 457 285)) (
List.cons (Prod.mk (nat_lit 287) (tO #[])) (
List.cons (Prod.mk (nat_lit 289) (tO #[.str "vault" 570,.str "root" 571,.str "number" 572,.str "count" 573,.str "node" 574,.str "left" 575])) (
List.cons (Prod.mk (nat_lit 290) (tO #[])) (
List.cons (Prod.mk (nat_lit 292) (cO "nth" 567 "nth" 568 569 174 3 0 0 3 287 true 288 .none (.ref 289) (.ref 290) (.ref 291) 576 174 577)) (
List.cons (Prod.mk (nat_lit 293) (f1 "nth" "nth" (Pv.top 45) "papervault.trees" 457 292)) (
List.cons (Prod.mk (nat_lit 294) (tO #[])) (
List.cons (Prod.mk (nat_lit 296) (tO #[.str "node" 582,.str "side" 583,.str "root" 584,.str "count" 585])) (
List.cons (Prod.mk (nat_lit 297) (tO #[])) (
List.cons (Prod.mk (nat_lit 299) (cO "with_tree" 579 "with_tree" 580 581 192 4 0 0 3 294 true 295 .none (.ref 296) (.ref 297) (.ref 298) 586 192 587)) (
List.cons (Prod.mk (nat_lit 300) (f1 "with_tree" "with_tree" (Pv.top 46) "papervault.trees" 457 299)) (
List.cons (Prod.mk (nat_lit 301) (tO #[])) (
List.cons (Prod.mk (nat_lit 303) (tO #[.str "vault" 592,.str "way" 593,.str "key" 594,.str "root" 595,.str "more" 596,.str "node" 597])) (
List.cons (Prod.mk (nat_lit 304) (tO #[])) (
List.cons (Prod.mk (nat_lit 306) (cO "hung" 589 "hung" 590 591 196 5 0 0 3 301 true 302 .none (.ref 303) (.ref 304) (.ref 305) 598 196 599)) (
List.cons (Prod.mk (nat_lit 307) (f1 "hung" "hung" (Pv.top 47) "papervault.trees" 457 306)) (
List.cons (Prod.mk (nat_lit 308) (tO #[])) (
List.cons (Prod.mk (nat_lit 310) (tO #[.str "vault" 604,.str "way" 605,.str "key" 606,.str "root" 607,.str "count" 608,.str "left" 609,.str "left_count" 610,.str "right" 611,.str "right_count" 612,.str "node" 613])) (
List.cons (Prod.mk (nat_lit 311) (tO #[])) (
List.cons (Prod.mk (nat_lit 313) (cO "parted" 601 "parted" 602 603 200 5 0 0 3 308 true 309 .none (.ref 310) (.ref 311) (.ref 312) 614 200 615)) (
List.cons (Prod.mk (nat_lit 314) (f1 "parted" "parted" (Pv.top 48) "papervault.trees" 457 313)) (
List.cons (Prod.mk (nat_lit 315) (tO #[])) (
List.cons (Prod.mk (nat_lit 317) (tO #[.str "vault" 620,.str "root" 621,.str "key" 622,.str "way" 623,.str "own" 624])) (
List.cons (Prod.mk (nat_lit 318) (tO #[])) (
List.cons (Prod.mk (nat_lit 320) (cO "part" 617 "part" 618 619 213 3 0 0 3 315 true 316 .none (.ref 317) (.ref 318) (.ref 319) 625 213 626)) (
List.cons (Prod.mk (nat_lit 321) (f1 "part" "part" (Pv.top 49) "papervault.trees" 457 320)) (
List.cons (Prod.mk (nat_lit 322) (tO #[])) (
List.cons (Prod.mk (nat_lit 324) (tO #[.str "way" 631,.str "key" 632,.str "number" 633,.str "node" 634])) (
List.cons (Prod.mk (nat_lit 325) (tO #[])) (
List.cons (Prod.mk (nat_lit 327) (cO "place_in" 628 "place_in" 629 630 219 2 0 0 3 322 true 323 .none (.ref 324) (.ref 325) (.ref 326) 635 219 636)) (
List.cons (Prod.mk (nat_lit 328) (f1 "place_in" "place_in" (Pv.top 50) "papervault.trees" 457 327)) (
List.cons (Prod.mk (nat_lit 329) (tO #[])) (
List.cons (Prod.mk (nat_lit 331) (tO #[.str "vault" 641,.str "root" 642,.str "key" 643,.str "worth" 644,.str "way" 645,.str "own" 646,.str "new" 647,.str "place" 648,.str "trees" 649,.str "count" 650])) (
List.cons (Prod.mk (nat_lit 332) (tO #[])) (
List.cons (Prod.mk (nat_lit 334) (cO "put" 638 "put" 639 640 224 4 0 0 3 329 true 330 .none (.ref 331) (.ref 332) (.ref 333) 651 224 652)) (
List.cons (Prod.mk (nat_lit 335) (f1 "put" "put" (Pv.top 51) "papervault.trees" 457 334)) (
List.cons (Prod.mk (nat_lit 336) (tO #[])) (
List.cons (Prod.mk (nat_lit 338) (tO #[.str "vault" 657,.str "root" 658,.str "key" 659,.str "way" 660,.str "own" 661])) (
List.cons (Prod.mk (nat_lit 339) (tO #[])) (
List.cons (Prod.mk (nat_lit 341) (cO "cut" 654 "cut" 655 656 235 3 0 0 3 336 true 337 .none (.ref 338) (.ref 339) (.ref 340) 662 235 663)) (
List.cons (Prod.mk (nat_lit 342) (f1 "cut" "cut" (Pv.top 52) "papervault.trees" 457 341)) (
List.cons (Prod.mk (nat_lit 343) (tO #[])) (
List.cons (Prod.mk (nat_lit 345) (tO #[.str "vault" 668,.str "left" 669,.str "right" 670])) (
List.cons (Prod.mk (nat_lit 346) (tO #[])) (
List.cons (Prod.mk (nat_lit 348) (cO "join" 665 "join" 666 667 241 3 0 0 3 343 true 344 .none (.ref 345) (.ref 346) (.ref 347) 671 241 672)) (
List.cons (Prod.mk (nat_lit 349) (f1 "join" "join" (Pv.top 53) "papervault.trees" 457 348)) (
List.cons (Prod.mk (nat_lit 350) (tO #[])) (
List.cons (Prod.mk (nat_lit 352) (tO #[.str "vault" 677,.str "left" 678,.str "right" 679,.str "count" 680,.str "left_count" 681,.str "right_count" 682,.str "down" 683,.str "one" 684,.str "other" 685,.str "both" 686,.str "root" 687,.str "step" 688])) (
List.cons (Prod.mk (nat_lit 353) (tO #[])) (
List.cons (Prod.mk (nat_lit 355) (cO "joined" 674 "joined" 675 676 243 4 0 0 3 350 true 351 .none (.ref 352) (.ref 353) (.ref 354) 689 243 690)) (
List.cons (Prod.mk (nat_lit 356) (f1 "joined" "joined" (Pv.top 54) "papervault.trees" 457 355)) (
List.cons (Prod.mk (nat_lit 357) (tO #[])) (
List.cons (Prod.mk (nat_lit 360) (cO "rising" 694 "rising" 695 696 264 1 0 0 3 357 true 358 .none .none .none (.ref 359) 697 264 698)) (
List.cons (Prod.mk (nat_lit 361) (f1 "rising" "rising" (Pv.top 56) "papervault.vaults" 692 360)) (
List.cons (Prod.mk (nat_lit 369) (tO #[])) (
List.cons (Prod.mk (nat_lit 371) (tO #[.str "self" 715])) (
List.cons (Prod.mk (nat_lit 372) (tO #[])) (
List.cons (Prod.mk (nat_lit 374) (cO "__init__" 712 "Vault.__init__" 713 714 268 1 0 0 3 369 true 370 .none (.ref 371) (.ref 372) (.ref 373) 716 268 717)) (
List.cons (Prod.mk (nat_lit 375) (f1 "__init__" "Vault.__init__" (L2.inClass (Pv.top 57) 0) "papervault.vaults" 692 374)) (
List.cons (Prod.mk (nat_lit 376) (tO #[])) (
List.cons (Prod.mk (nat_lit 378) (tO #[.str "self" 722,.str "number" 723,.str "thing" 724])) (
List.cons (Prod.mk (nat_lit 379) (tO #[])) (
List.cons (Prod.mk (nat_lit 381) (cO "refuse_clash" 719 "Vault.refuse_clash" 720 721 271 3 0 0 3 376 true 377 .none (.ref 378) (.ref 379) (.ref 380) 725 271 726)) (
List.cons (Prod.mk (nat_lit 382) (f1 "refuse_clash" "Vault.refuse_clash" (L2.inClass (Pv.top 57) 1) "papervault.vaults" 692 381)) (
List.cons (Prod.mk (nat_lit 383) (tO #[])) (
List.cons (Prod.mk (nat_lit 385) (tO #[.str "self" 731,.str "thing" 732,.str "number" 733])) (
List.cons (Prod.mk (nat_lit 386) (tO #[])) (
List.cons (Prod.mk (nat_lit 388) (cO "lay" 728 "Vault.lay" 729 730 275 2 0 0 3 383 true 384 .none (.ref 385) (.ref 386) (.ref 387) 734 275 735)) (
List.cons (Prod.mk (nat_lit 389) (f1 "lay" "Vault.lay" (L2.inClass (Pv.top 57) 2) "papervault.vaults" 692 388)) (
List.cons (Prod.mk (nat_lit 390) (tO #[])) (
List.cons (Prod.mk (nat_lit 392) (tO #[.str "self" 740,.str "number" 741])) (
List.cons (Prod.mk (nat_lit 393) (tO #[])) (
List.cons (Prod.mk (nat_lit 395) (cO "thing" 737 "Vault.thing" 738 739 281 2 0 0 3 390 true 391 .none (.ref 392) (.ref 393) (.ref 394) 742 281 743)) (
List.cons (Prod.mk (nat_lit 396) (f1 "thing" "Vault.thing" (L2.inClass (Pv.top 57) 3) "papervault.vaults" 692 395)) (
List.cons (Prod.mk (nat_lit 397) (tO #[.str "laid" 745])) (
List.cons (Prod.mk (nat_lit 398) (dO #[dE P "__module__" 707 (.str "papervault.vaults" 692),dE P "__firstlineno__" 711 (.int 266 710),dE P "__init__" 718 (.ref 375),dE P "refuse_clash" 727 (.ref 382),dE P "lay" 736 (.ref 389),dE P "thing" 744 (.ref 396),dE P "__static_attributes__" 746 (.ref 397),dE P "__dict__" 748 (.ref 400),dE P "__weakref__" 750 (.ref 401),dE P "__doc__" 751 .none] 4)) (
List.cons (Prod.mk (nat_lit 399) (.mk (.type "type") none (.cls (ClassData.mk "Vault" [.type "object"] [.ref 399,.type "object"] 398 "Vault" true [] [.ref 420] false none false)) #[none,none,some (.str "Vault" 700),some (.str "Vault" 708),some (.builtin "object.__new__"),some (.bool true)])) (
List.cons (Prod.mk (nat_lit 400) (.mk (.type "getset_descriptor") none (.fields #[.str "__dict__" 747,.ref 399,.builtin "function.__dict__",.builtin "function.__dict__#set"]) #[])) (
List.cons (Prod.mk (nat_lit 401) (.mk (.type "getset_descriptor") none (.fields #[.str "__weakref__" 749,.ref 399,.builtin "ExceptionGroup.__weakref__",.none]) #[])) (
List.cons (Prod.mk (nat_lit 404) (tO #[.ref 399])) (
List.cons (Prod.mk (nat_lit 411) (tO #[])) (
List.cons (Prod.mk (nat_lit 413) (tO #[.str "self" 769])) (
List.cons (Prod.mk (nat_lit 414) (tO #[])) (
List.cons (Prod.mk (nat_lit 416) (cO "things" 766 "Keeper.things" 767 768 287 1 0 0 3 411 true 412 .none (.ref 413) (.ref 414) (.ref 415) 770 287 771)) (
List.cons (Prod.mk (nat_lit 417) (f1 "things" "Keeper.things" (L2.inClass (Pv.top 58) 0) "papervault.vaults" 692 416)) (
List.cons (Prod.mk (nat_lit 418) (tO #[])) (
List.cons (Prod.mk (nat_lit 419) (dO #[dE P "__module__" 761 (.str "papervault.vaults" 692),dE P "__firstlineno__" 765 (.int 285 764),dE P "things" 772 (.ref 417),dE P "__static_attributes__" 773 (.ref 418),dE P "__doc__" 774 .none] 2)) (
List.cons (Prod.mk (nat_lit 420) (.mk (.type "type") none (.cls (ClassData.mk "Keeper" [.ref 399] [.ref 420,.ref 399,.type "object"] 419 "Keeper" true [] [] false none false)) #[some (.ref 404),none,some (.str "Keeper" 754),some (.str "Keeper" 762),some (.builtin "object.__new__"),some (.bool true)])) (
List.cons (Prod.mk (nat_lit 423) (tO #[])) (
List.cons (Prod.mk (nat_lit 425) (tO #[.str "script" 782,.str "k" 783])) (
List.cons (Prod.mk (nat_lit 426) (tO #[])) (
List.cons (Prod.mk (nat_lit 428) (cO "_law_cell_at" 779 "_law_cell_at" 780 781 290 2 0 0 3 423 true 424 .none (.ref 425) (.ref 426) (.ref 427) 784 290 785)) (
List.cons (Prod.mk (nat_lit 429) (f1 "_law_cell_at" "_law_cell_at" (Pv.top 60) "law_papervault_k35_no_nodes" 777 428)) (
List.cons (Prod.mk (nat_lit 430) (tO #[])) (
List.cons (Prod.mk (nat_lit 432) (tO #[.str "cell" 790,.str "k" 791,.str "one" 792])) (
List.cons (Prod.mk (nat_lit 433) (tO #[])) (
List.cons (Prod.mk (nat_lit 435) (cO "_law_mix" 787 "_law_mix" 788 789 294 2 0 0 3 430 true 431 .none (.ref 432) (.ref 433) (.ref 434) 793 294 794)) (
List.cons (Prod.mk (nat_lit 436) (f1 "_law_mix" "_law_mix" (Pv.top 61) "law_papervault_k35_no_nodes" 777 435)) (
List.cons (Prod.mk (nat_lit 437) (tO #[])) (
List.cons (Prod.mk (nat_lit 439) (tO #[.str "cell" 799,.str "way" 800,.str "least" 801,.str "xs" 802,.str "k" 803,.str "wide" 804])) (
List.cons (Prod.mk (nat_lit 440) (tO #[])) (
List.cons (Prod.mk (nat_lit 442) (cO "_law_parts" 796 "_law_parts" 797 798 298 3 0 0 3 437 true 438 .none (.ref 439) (.ref 440) (.ref 441) 805 298 806)) (
List.cons (Prod.mk (nat_lit 443) (f1 "_law_parts" "_law_parts" (Pv.top 62) "law_papervault_k35_no_nodes" 777 442)) (
List.cons (Prod.mk (nat_lit 444) (tO #[])) (
List.cons (Prod.mk (nat_lit 446) (tO #[.str "number" 811,.str "many" 812,.str "signs" 813,.str "text" 814,.str "k" 815])) (
List.cons (Prod.mk (nat_lit 447) (tO #[])) (
List.cons (Prod.mk (nat_lit 449) (cO "_law_text" 808 "_law_text" 809 810 308 2 0 0 3 444 true 445 .none (.ref 446) (.ref 447) (.ref 448) 816 308 817)) (
List.cons (Prod.mk (nat_lit 450) (f1 "_law_text" "_law_text" (Pv.top 63) "law_papervault_k35_no_nodes" 777 449)) (
List.cons (Prod.mk (nat_lit 451) (tO #[])) (
List.cons (Prod.mk (nat_lit 453) (tO #[.str "cell" 822,.str "way" 823,.str "xs" 824,.str "some" 825])) (
List.cons (Prod.mk (nat_lit 454) (tO #[])) (
List.cons (Prod.mk (nat_lit 456) (cO "_law_key" 819 "_law_key" 820 821 316 2 0 0 3 451 true 452 .none (.ref 453) (.ref 454) (.ref 455) 826 316 827)) (
List.cons (Prod.mk (nat_lit 457) (f1 "_law_key" "_law_key" (Pv.top 64) "law_papervault_k35_no_nodes" 777 456)) (
List.cons (Prod.mk (nat_lit 458) (tO #[])) (
List.cons (Prod.mk (nat_lit 460) (tO #[.str "cell" 832,.str "way" 833,.str "xs" 834])) (
List.cons (Prod.mk (nat_lit 461) (tO #[])) (
List.cons (Prod.mk (nat_lit 463) (cO "_law_worth" 829 "_law_worth" 830 831 321 2 0 0 3 458 true 459 .none (.ref 460) (.ref 461) (.ref 462) 835 321 836)) (
List.cons (Prod.mk (nat_lit 464) (f1 "_law_worth" "_law_worth" (Pv.top 65) "law_papervault_k35_no_nodes" 777 463)) (
List.cons (Prod.mk (nat_lit 465) (tO #[])) (
List.cons (Prod.mk (nat_lit 467) (tO #[.str "thing" 841])) (
List.cons (Prod.mk (nat_lit 468) (tO #[])) (
List.cons (Prod.mk (nat_lit 470) (cO "_law_sort" 838 "_law_sort" 839 840 324 1 0 0 3 465 true 466 .none (.ref 467) (.ref 468) (.ref 469) 842 324 843)) (
List.cons (Prod.mk (nat_lit 471) (f1 "_law_sort" "_law_sort" (Pv.top 66) "law_papervault_k35_no_nodes" 777 470)) (
List.cons (Prod.mk (nat_lit 472) (tO #[])) (
List.cons (Prod.mk (nat_lit 474) (tO #[.str "one" 848,.str "other" 849,.str "k" 850])) (
List.cons (Prod.mk (nat_lit 475) (tO #[])) (
List.cons (Prod.mk (nat_lit 477) (cO "_law_ahead" 845 "_law_ahead" 846 847 332 2 0 0 3 472 true 473 .none (.ref 474) (.ref 475) (.ref 476) 851 332 852)) (
List.cons (Prod.mk (nat_lit 478) (f1 "_law_ahead" "_law_ahead" (Pv.top 67) "law_papervault_k35_no_nodes" 777 477)) (
List.cons (Prod.mk (nat_lit 479) (tO #[])) (
List.cons (Prod.mk (nat_lit 481) (tO #[.str "pairs" 857,.str "key" 858,.str "worth" 859,.str "k" 860])) (
List.cons (Prod.mk (nat_lit 482) (tO #[])) (
List.cons (Prod.mk (nat_lit 484) (cO "_law_put_in" 854 "_law_put_in" 855 856 345 3 0 0 3 479 true 480 .none (.ref 481) (.ref 482) (.ref 483) 861 345 862)) (
List.cons (Prod.mk (nat_lit 485) (f1 "_law_put_in" "_law_put_in" (Pv.top 68) "law_papervault_k35_no_nodes" 777 484)) (
List.cons (Prod.mk (nat_lit 486) (tO #[])) (
List.cons (Prod.mk (nat_lit 489) (cO "_law_none" 864 "_law_none" 865 866 352 3 0 0 3 486 true 487 .none .none .none (.ref 488) 867 352 868)) (
List.cons (Prod.mk (nat_lit 490) (f1 "_law_none" "_law_none" (Pv.top 69) "law_papervault_k35_no_nodes" 777 489)) (
List.cons (Prod.mk (nat_lit 491) (tO #[])) (
List.cons (Prod.mk (nat_lit 493) (tO #[.str "vault" 873,.str "root" 874,.str "way" 875,.str "key" 876])) (
List.cons (Prod.mk (nat_lit 494) (tO #[])) (
List.cons (Prod.mk (nat_lit 496) (cO "_law_beside" 870 "_law_beside" 871 872 363 4 0 0 3 491 true 492 .none (.ref 493) (.ref 494) (.ref 495) 877 363 878)) (
List.cons (Prod.mk (nat_lit 497) (f1 "_law_beside" "_law_beside" (Pv.top 70) "law_papervault_k35_no_nodes" 777 496)) (
List.cons (Prod.mk (nat_lit 498) (tO #[])) (
List.cons (Prod.mk (nat_lit 500) (tO #[.str "vault" 883,.str "root" 884,.str "way" 885,.str "key" 886])) (
List.cons (Prod.mk (nat_lit 501) (tO #[])) (
List.cons (Prod.mk (nat_lit 503) (cO "_law_asked" 880 "_law_asked" 881 882 377 4 0 0 3 498 true 499 .none (.ref 500) (.ref 501) (.ref 502) 887 377 888)) (
List.cons (Prod.mk (nat_lit 504) (f1 "_law_asked" "_law_asked" (Pv.top 71) "law_papervault_k35_no_nodes" 777 503)) (
List.cons (Prod.mk (nat_lit 505) (tO #[])) (
List.cons (Prod.mk (nat_lit 507) (tO #[.str "vault" 893,.str "root" 894,.str "way" 895,.str "key" 896,.str "due" 897,.str "kinds" 898,.str "other" 899,.str "e" 900])) (
List.cons (Prod.mk (nat_lit 508) (tO #[])) (
List.cons (Prod.mk (nat_lit 510) (cO "_law_refused" 890 "_law_refused" 891 892 389 5 0 0 3 505 true 506 .none (.ref 507) (.ref 508) (.ref 509) 901 389 902)) (
List.cons (Prod.mk (nat_lit 511) (f1 "_law_refused" "_law_refused" (Pv.top 72) "law_papervault_k35_no_nodes" 777 510)) (
List.cons (Prod.mk (nat_lit 512) (tO #[])) (
List.cons (Prod.mk (nat_lit 514) (tO #[.str "cell" 907,.str "way" 908,.str "pairs" 909,.str "k" 910])) (
List.cons (Prod.mk (nat_lit 515) (tO #[])) (
List.cons (Prod.mk (nat_lit 517) (cO "_law_three" 904 "_law_three" 905 906 398 2 0 0 3 512 true 513 .none (.ref 514) (.ref 515) (.ref 516) 911 398 912)) (
List.cons (Prod.mk (nat_lit 518) (f1 "_law_three" "_law_three" (Pv.top 73) "law_papervault_k35_no_nodes" 777 517)) (
List.cons (Prod.mk (nat_lit 519) (tO #[])) (
List.cons (Prod.mk (nat_lit 522) (cO "_law_uneven" 914 "_law_uneven" 915 916 403 3 0 0 3 519 true 520 .none .none .none (.ref 521) 917 403 918)) (
List.cons (Prod.mk (nat_lit 523) (f1 "_law_uneven" "_law_uneven" (Pv.top 74) "law_papervault_k35_no_nodes" 777 522)) (
List.cons (Prod.mk (nat_lit 524) (tO #[])) (
List.cons (Prod.mk (nat_lit 526) (tO #[.str "keeper" 923,.str "cell" 924,.str "way" 925,.str "pairs" 926,.str "count" 927,.str "bad" 928,.str "links" 929,.str "root" 930])) (
List.cons (Prod.mk (nat_lit 527) (tO #[])) (
List.cons (Prod.mk (nat_lit 529) (cO "_law_cut_itself" 920 "_law_cut_itself" 921 922 421 3 0 0 3 524 true 525 .none (.ref 526) (.ref 527) (.ref 528) 931 421 932)) (
List.cons (Prod.mk (nat_lit 530) (f1 "_law_cut_itself" "_law_cut_itself" (Pv.top 75) "law_papervault_k35_no_nodes" 777 529)) (
List.cons (Prod.mk (nat_lit 531) (tO #[])) (
List.cons (Prod.mk (nat_lit 533) (tO #[.str "keeper" 937,.str "bad" 938,.str "key" 939,.str "other" 940,.str "low" 941,.str "high" 942])) (
List.cons (Prod.mk (nat_lit 534) (tO #[])) (
List.cons (Prod.mk (nat_lit 536) (cO "_law_unread" 934 "_law_unread" 935 936 434 4 0 0 3 531 true 532 .none (.ref 533) (.ref 534) (.ref 535) 943 434 944)) (
List.cons (Prod.mk (nat_lit 537) (f1 "_law_unread" "_law_unread" (Pv.top 76) "law_papervault_k35_no_nodes" 777 536)) (
List.cons (Prod.mk (nat_lit 538) (tO #[])) (
List.cons (Prod.mk (nat_lit 540) (tO #[.str "cell" 949,.str "way" 950,.str "keeper" 951,.str "own" 952,.str "key" 953,.str "count" 954,.str "thing" 955,.str "due" 956,.str "bad" 957,.str "links" 958,.str "root" 959,.str "deeds" 960,.str "some" 961])) (
List.cons (Prod.mk (nat_lit 541) (tO #[])) (
List.cons (Prod.mk (nat_lit 543) (cO "_law_right" 946 "_law_right" 947 948 443 2 0 0 3 538 true 539 .none (.ref 540) (.ref 541) (.ref 542) 962 443 963)) (
List.cons (Prod.mk (nat_lit 544) (f1 "_law_right" "_law_right" (Pv.top 77) "law_papervault_k35_no_nodes" 777 543)) (
List.cons (Prod.mk (nat_lit 545) (tO #[])) (
List.cons (Prod.mk (nat_lit 547) (tO #[.str "script" 968,.str "way" 969,.str "cell" 970])) (
List.cons (Prod.mk (nat_lit 548) (tO #[])) (
List.cons (Prod.mk (nat_lit 550) (cO "_law_walked" 965 "_law_walked" 966 967 476 1 0 0 3 545 true 546 .none (.ref 547) (.ref 548) (.ref 549) 971 476 972)) (
List.cons (Prod.mk (nat_lit 551) (f1 "_law_walked" "_law_walked" (Pv.top 78) "law_papervault_k35_no_nodes" 777 550)) (
List.cons (Prod.mk (nat_lit 552) (tO #[])) (
List.cons (Prod.mk (nat_lit 554) (tO #[.str "script" 977,.str "told" 978,.str "clash" 979,.str "e" 980])) (
List.cons (Prod.mk (nat_lit 555) (tO #[])) (
List.cons (Prod.mk (nat_lit 557) (cO "law" 974 "law" 975 976 482 1 0 0 3 552 true 553 .none (.ref 554) (.ref 555) (.ref 556) 981 482 982)) (
List.cons (Prod.mk (nat_lit 558) (f1 "law" "law" (Pv.top 79) "law_papervault_k35_no_nodes" 777 557)) (
List.nil)))))))))))))))))))))))))))))))))))))))))))))))))))))))))))))))))))))))))))))))))))))))))))))))))))))))))))))))))))))))))))))))))))))))))))))))))))))))))))))))))))))))))))))))))))))))))))))))))))))))))))))))))))))))))))))))))))))))))))))))))))))))))))))))))))))))))))))))))))))))))))))))))))))))))))))))))))))))))))))))))))))))))))))))))))))))))))
def KA:List Addr:=List.cons (nat_lit 2) (List.cons (nat_lit 3) (List.cons (nat_lit 15) (List.cons (nat_lit 22) (List.cons (nat_lit 23) (List.cons (nat_lit 24) (List.cons (nat_lit 25) (List.cons (nat_lit 28) (List.cons (nat_lit 35) (List.cons (nat_lit 36) (List.cons (nat_lit 37) (List.cons (nat_lit 40) (List.cons (nat_lit 47) (List.cons (nat_lit 48) (List.cons (nat_lit 49) (List.cons (nat_lit 52) (List.cons (nat_lit 59) (List.cons (nat_lit 60) (List.cons (nat_lit 61) (List.cons (nat_lit 64) (List.cons (nat_lit 71) (List.cons (nat_lit 73) (List.cons (nat_lit 74) (List.cons (nat_lit 76) (List.cons (nat_lit 77) (List.cons (nat_lit 78) (List.cons (nat_lit 79) (List.cons (nat_lit 80) (List.cons (nat_lit 83) (List.cons (nat_lit 90) (List.cons (nat_lit 91) (List.cons (nat_lit 92) (List.cons (nat_lit 95) (List.cons (nat_lit 102) (List.cons (nat_lit 103) (List.cons (nat_lit 104) (List.cons (nat_lit 107) (List.cons (nat_lit 109) (List.cons (nat_lit 110) (List.cons (nat_lit 112) (List.cons (nat_lit 113) (List.cons (nat_lit 114) (List.cons (nat_lit 117) (List.cons (nat_lit 118) (List.cons (nat_lit 119) (List.cons (nat_lit 121) (List.cons (nat_lit 122) (List.cons (nat_lit 124) (List.cons (nat_lit 125) (List.cons (nat_lit 126) (List.cons (nat_lit 128) (List.cons (nat_lit 129) (List.cons (nat_lit 131) (List.cons (nat_lit 132) (List.cons (nat_lit 133) (List.cons (nat_lit 135) (List.cons (nat_lit 136) (List.cons (nat_lit 138) (List.cons (nat_lit 139) (List.cons (nat_lit 140) (List.cons (nat_lit 142) (List.cons (nat_lit 143) (List.cons (nat_lit 145) (List.cons (nat_lit 146) (List.cons (nat_lit 147) (List.cons (nat_lit 149) (List.cons (nat_lit 150) (List.cons (nat_lit 152) (List.cons (nat_lit 153) (List.cons (nat_lit 154) (List.cons (nat_lit 156) (List.cons (nat_lit 157) (List.cons (nat_lit 159) (List.cons (nat_lit 160) (List.cons (nat_lit 161) (List.cons (nat_lit 163) (List.cons (nat_lit 164) (List.cons (nat_lit 166) (List.cons (nat_lit 167) (List.cons (nat_lit 168) (List.cons (nat_lit 170) (List.cons (nat_lit 171) (List.cons (nat_lit 173) (List.cons (nat_lit 174) (List.cons (nat_lit 175) (List.cons (nat_lit 177) (List.cons (nat_lit 178) (List.cons (nat_lit 180) (List.cons (nat_lit 181) (List.cons (nat_lit 182) (List.cons (nat_lit 184) (List.cons (nat_lit 185) (List.cons (nat_lit 187) (List.cons (nat_lit 188) (List.cons (nat_lit 189) (List.cons (nat_lit 191) (List.cons (nat_lit 192) (List.cons (nat_lit 194) (List.cons (nat_lit 195) (List.cons (nat_lit 196) (List.cons (nat_lit 198) (List.cons (nat_lit 199) (List.cons (nat_lit 201) (List.cons (nat_lit 202) (List.cons (nat_lit 203) (List.cons (nat_lit 205) (List.cons (nat_lit 206) (List.cons (nat_lit 208) (List.cons (nat_lit 209) (List.cons (nat_lit 210) (List.cons (nat_lit 212) (List.cons (nat_lit 213) (List.cons (nat_lit 215) (List.cons (nat_lit 216) (List.cons (nat_lit 217) (List.cons (nat_lit 219) (List.cons (nat_lit 220) (List.cons (nat_lit 222) (List.cons (nat_lit 223) (List.cons (nat_lit 224) (List.cons (nat_lit 226) (List.cons (nat_lit 227) (List.cons (nat_lit 229) (List.cons (nat_lit 230) (List.cons (nat_lit 231) (List.cons (nat_lit 233) (List.cons (nat_lit 234) (List.cons (nat_lit 236) (List.cons (nat_lit 237) (List.cons (nat_lit 238) (List.cons (nat_lit 240) (List.cons (nat_lit 241) (List.cons (nat_lit 243) (List.cons (nat_lit 244) (List.cons (nat_lit 245) (List.cons (nat_lit 247) (List.cons (nat_lit 248) (List.cons (nat_lit 250) (List.cons (nat_lit 251) (List.cons (nat_lit 252) (List.cons (nat_lit 254) (List.cons (nat_lit 255) (List.cons (nat_lit 257) (List.cons (nat_lit 258) (List.cons (nat_lit 259) (List.cons (nat_lit 261) (List.cons (nat_lit 262) (List.cons (nat_lit 264) (List.cons (nat_lit 265) (List.cons (nat_lit 266) (List.cons (nat_lit 268) (List.cons (nat_lit 269) (List.cons (nat_lit 271) (List.cons (nat_lit 272) (List.cons (nat_lit 273) (List.cons (nat_lit 275) (List.cons (nat_lit 276) (List.cons (nat_lit 278) (List.cons (nat_lit 279) (List.cons (nat_lit 280) (List.cons (nat_lit 282) (List.cons (nat_lit 283) (List.cons (nat_lit 285) (List.cons (nat_lit 286) (List.cons (nat_lit 287) (List.cons (nat_lit 289) (List.cons (nat_lit 290) (List.cons (nat_lit 292) (List.cons (nat_lit 293) (List.cons (nat_lit 294) (List.cons (nat_lit 296) (List.cons (nat_lit 297) (List.cons (nat_lit 299) (List.cons (nat_lit 300) (List.cons (nat_lit 301) (List.cons (nat_lit 303) (List.cons (nat_lit 304) (List.cons (nat_lit 306) (List.cons (nat_lit 307) (List.cons (nat_lit 308) (List.cons (nat_lit 310) (List.cons (nat_lit 311) (List.cons (nat_lit 313) (List.cons (nat_lit 314) (List.cons (nat_lit 315) (List.cons (nat_lit 317) (List.cons (nat_lit 318) (List.cons (nat_lit 320) (List.cons (nat_lit 321) (List.cons (nat_lit 322) (List.cons (nat_lit 324) (List.cons (nat_lit 325) (List.cons (nat_lit 327) (List.cons (nat_lit 328) (List.cons (nat_lit 329) (List.cons (nat_lit 331) (List.cons (nat_lit 332) (List.cons (nat_lit 334) (List.cons (nat_lit 335) (List.cons (nat_lit 336) (List.cons (nat_lit 338) (List.cons (nat_lit 339) (List.cons (nat_lit 341) (List.cons (nat_lit 342) (List.cons (nat_lit 343) (List.cons (nat_lit 345) (List.cons (nat_lit 346) (List.cons (nat_lit 348) (List.cons (nat_lit 349) (List.cons (nat_lit 350) (List.cons (nat_lit 352) (List.cons (nat_lit 353) (List.cons (nat_lit 355) (List.cons (nat_lit 356) (List.cons (nat_lit 357) (List.cons (nat_lit 360) (List.cons (nat_lit 361) (List.cons (nat_lit 369) (List.cons (nat_lit 371) (List.cons (nat_lit 372) (List.cons (nat_lit 374) (List.cons (nat_lit 375) (List.cons (nat_lit 376) (List.cons (nat_lit 378) (List.cons (nat_lit 379) (List.cons (nat_lit 381) (List.cons (nat_lit 382) (List.cons (nat_lit 383) (List.cons (nat_lit 385) (List.cons (nat_lit 386) (List.cons (nat_lit 388) (List.cons (nat_lit 389) (List.cons (nat_lit 390) (List.cons (nat_lit 392) (List.cons (nat_lit 393) (List.cons (nat_lit 395) (List.cons (nat_lit 396) (List.cons (nat_lit 397) (List.cons (nat_lit 398) (List.cons (nat_lit 399) (List.cons (nat_lit 400) (List.cons (nat_lit 401) (List.cons (nat_lit 404) (List.cons (nat_lit 411) (List.cons (nat_lit 413) (List.cons (nat_lit 414) (List.cons (nat_lit 416) (List.cons (nat_lit 417) (List.cons (nat_lit 418) (List.cons (nat_lit 419) (List.cons (nat_lit 420) (List.cons (nat_lit 423) (List.cons (nat_lit 425) (List.cons (nat_lit 426) (List.cons (nat_lit 428) (List.cons (nat_lit 429) (List.cons (nat_lit 430) (List.cons (nat_lit 432) (List.cons (nat_lit 433) (List.cons (nat_lit 435) (List.cons (nat_lit 436) (List.cons (nat_lit 437) (List.cons (nat_lit 439) (List.cons (nat_lit 440) (List.cons (nat_lit 442) (List.cons (nat_lit 443) (List.cons (nat_lit 444) (List.cons (nat_lit 446) (List.cons (nat_lit 447) (List.cons (nat_lit 449) (List.cons (nat_lit 450) (List.cons (nat_lit 451) (List.cons (nat_lit 453) (List.cons (nat_lit 454) (List.cons (nat_lit 456) (List.cons (nat_lit 457) (List.cons (nat_lit 458) (List.cons (nat_lit 460) (List.cons (nat_lit 461) (List.cons (nat_lit 463) (List.cons (nat_lit 464) (List.cons (nat_lit 465) (List.cons (nat_lit 467) (List.cons (nat_lit 468) (List.cons (nat_lit 470) (List.cons (nat_lit 471) (List.cons (nat_lit 472) (List.cons (nat_lit 474) (List.cons (nat_lit 475) (List.cons (nat_lit 477) (List.cons (nat_lit 478) (List.cons (nat_lit 479) (List.cons (nat_lit 481) (List.cons (nat_lit 482) (List.cons (nat_lit 484) (List.cons (nat_lit 485) (List.cons (nat_lit 486) (List.cons (nat_lit 489) (List.cons (nat_lit 490) (List.cons (nat_lit 491) (List.cons (nat_lit 493) (List.cons (nat_lit 494) (List.cons (nat_lit 496) (List.cons (nat_lit 497) (List.cons (nat_lit 498) (List.cons (nat_lit 500) (List.cons (nat_lit 501) (List.cons (nat_lit 503) (List.cons (nat_lit 504) (List.cons (nat_lit 505) (List.cons (nat_lit 507) (List.cons (nat_lit 508) (List.cons (nat_lit 510) (List.cons (nat_lit 511) (List.cons (nat_lit 512) (List.cons (nat_lit 514) (List.cons (nat_lit 515) (List.cons (nat_lit 517) (List.cons (nat_lit 518) (List.cons (nat_lit 519) (List.cons (nat_lit 522) (List.cons (nat_lit 523) (List.cons (nat_lit 524) (List.cons (nat_lit 526) (List.cons (nat_lit 527) (List.cons (nat_lit 529) (List.cons (nat_lit 530) (List.cons (nat_lit 531) (List.cons (nat_lit 533) (List.cons (nat_lit 534) (List.cons (nat_lit 536) (List.cons (nat_lit 537) (List.cons (nat_lit 538) (List.cons (nat_lit 540) (List.cons (nat_lit 541) (List.cons (nat_lit 543) (List.cons (nat_lit 544) (List.cons (nat_lit 545) (List.cons (nat_lit 547) (List.cons (nat_lit 548) (List.cons (nat_lit 550) (List.cons (nat_lit 551) (List.cons (nat_lit 552) (List.cons (nat_lit 554) (List.cons (nat_lit 555) (List.cons (nat_lit 557) (List.cons (nat_lit 558) (List.nil)))))))))))))))))))))))))))))))))))))))))))))))))))))))))))))))))))))))))))))))))))))))))))))))))))))))))))))))))))))))))))))))))))))))))))))))))))))))))))))))))))))))))))))))))))))))))))))))))))))))))))))))))))))))))))))))))))))))))))))))))))))))))))))))))))))))))))))))))))))))))))))))))))))))))))))))))))))))))))))))))))))))))))))))))))))))))))
variable (P:Params)
def OL:List Obj:=[boot_o_0 P,
boot_o_1 P,
boot_o_4 P,
boot_o_5 P,
boot_o_6 P,
boot_o_7 P,
boot_o_8 P,
boot_o_9 P,
boot_o_10 P,
boot_o_7 P,
.mk .none none (.fields #[.int 2 0,.int 0 0,.ref 20,.int 4 0,.int 0 0,.ref 33,.int 6 0,.int 0 0,.ref 45,.int 8 0,.int 0 0,.ref 57,.int 10 0,.int 0 0,.ref 69,.int 15 0,.int 0 0,.ref 88,.int 17 0,.int 0 0,.ref 100,.int 20 0,.int 0 0,.ref 112,.int 25 0,.int 0 0,.ref 117,.int 38 0,.int 0 0,.ref 124,.int 44 0,.int 0 0,.ref 131,.int 46 0,.int 0 0,.ref 138,.int 54 0,.int 0 0,.ref 145,.int 63 0,.int 0 0,.ref 152,.int 76 0,.int 0 0,.ref 159,.int 78 0,.int 0 0,.ref 166,.int 83 0,.int 0 0,.ref 173,.int 91 0,.int 0 0,.ref 180,.int 93 0,.int 0 0,.ref 187,.int 95 0,.int 0 0,.ref 194,.int 99 0,.int 0 0,.ref 201,.int 101 0,.int 0 0,.ref 208,.int 108 0,.int 0 0,.ref 215,.int 110 0,.int 0 0,.ref 222,.int 121 0,.int 0 0,.ref 229,.int 123 0,.int 0 0,.ref 236,.int 126 0,.int 0 0,.ref 243,.int 128 0,.int 0 0,.ref 250,.int 130 0,.int 0 0,.ref 257,.int 132 0,.int 0 0,.ref 264,.int 137 0,.int 0 0,.ref 271,.int 158 0,.int 0 0,.ref 278,.int 167 0,.int 0 0,.ref 285,.int 174 0,.int 0 0,.ref 292,.int 192 0,.int 0 0,.ref 299,.int 196 0,.int 0 0,.ref 306,.int 200 0,.int 0 0,.ref 313,.int 213 0,.int 0 0,.ref 320,.int 219 0,.int 0 0,.ref 327,.int 224 0,.int 0 0,.ref 334,.int 235 0,.int 0 0,.ref 341,.int 241 0,.int 0 0,.ref 348,.int 243 0,.int 0 0,.ref 355,.int 264 0,.int 0 0,.ref 360,.int 266 0,.int 0 0,.ref 367,.int 285 0,.int 0 0,.ref 409,.int 290 0,.int 0 0,.ref 428,.int 294 0,.int 0 0,.ref 435,.int 298 0,.int 0 0,.ref 442,.int 308 0,.int 0 0,.ref 449,.int 316 0,.int 0 0,.ref 456,.int 321 0,.int 0 0,.ref 463,.int 324 0,.int 0 0,.ref 470,.int 332 0,.int 0 0,.ref 477,.int 345 0,.int 0 0,.ref 484,.int 352 0,.int 0 0,.ref 489,.int 363 0,.int 0 0,.ref 496,.int 377 0,.int 0 0,.ref 503,.int 389 0,.int 0 0,.ref 510,.int 398 0,.int 0 0,.ref 517,.int 403 0,.int 0 0,.ref 522,.int 421 0,.int 0 0,.ref 529,.int 434 0,.int 0 0,.ref 536,.int 443 0,.int 0 0,.ref 543,.int 476 0,.int 0 0,.ref 550,.int 482 0,.int 0 0,.ref 557]) #[],
cO "<module>" 182 "<module>" 183 184 1 0 0 0 0 11 false 12 .none .none .none .none 185 1 186,
.mk (.type "frame") none .plain #[some (.ref 13),some (.ref 3),some (.ref 3),none,some (.str "__main__" 164),none,some (.ref 0)],
.mk (.type "builtin_function_or_method") none (.fields #[.builtin "type.__prepare__",.type "type"]) #[],
dO #[dE P "__module__" 196 (.str "papervault.errors" 187),dE P "__qualname__" 198 (.str "VaultError" 197),dE P "__firstlineno__" 200 (.int 2 199),dE P "__static_attributes__" 201 (.ref 22)] 4,
boot_o_7 P,
boot_o_8 P,
cO "VaultError" 191 "VaultError" 192 193 2 0 0 0 0 18 false 19 .none .none .none .none 194 2 195,
.mk (.type "frame") none .plain #[some (.ref 20),some (.ref 3),some (.ref 17),none,some (.str "papervault.errors" 187),none,some (.ref 0)],
.mk (.type "super") none (.fields #[.ref 24,.ref 24,.ref 24]) #[],
.mk (.type "builtin_function_or_method") none (.fields #[.builtin "object.__init_subclass__",.ref 24]) #[],
.mk (.type "builtin_function_or_method") none (.fields #[.builtin "type.__prepare__",.type "type"]) #[],
dO #[dE P "__module__" 214 (.str "papervault.errors" 187),dE P "__qualname__" 216 (.str "NoThing" 215),dE P "__firstlineno__" 218 (.int 4 217),dE P "__static_attributes__" 219 (.ref 35)] 4,
boot_o_7 P,
boot_o_8 P,
cO "NoThing" 209 "NoThing" 210 211 4 0 0 0 0 31 false 32 .none .none .none .none 212 4 213,
.mk (.type "frame") none .plain #[some (.ref 33),some (.ref 3),some (.ref 30),none,some (.str "papervault.errors" 187),none,some (.ref 0)],
.mk (.type "super") none (.fields #[.ref 37,.ref 37,.ref 37]) #[],
.mk (.type "builtin_function_or_method") none (.fields #[.builtin "object.__init_subclass__",.ref 37]) #[],
.mk (.type "builtin_function_or_method") none (.fields #[.builtin "type.__prepare__",.type "type"]) #[],
dO #[dE P "__module__" 230 (.str "papervault.errors" 187),dE P "__qualname__" 232 (.str "NoPaper" 231),dE P "__firstlineno__" 234 (.int 6 233),dE P "__static_attributes__" 235 (.ref 47)] 4,
boot_o_7 P,
boot_o_8 P,
cO "NoPaper" 225 "NoPaper" 226 227 6 0 0 0 0 43 false 44 .none .none .none .none 228 6 229,
.mk (.type "frame") none .plain #[some (.ref 45),some (.ref 3),some (.ref 42),none,some (.str "papervault.errors" 187),none,some (.ref 0)],
.mk (.type "super") none (.fields #[.ref 49,.ref 49,.ref 49]) #[],
.mk (.type "builtin_function_or_method") none (.fields #[.builtin "object.__init_subclass__",.ref 49]) #[],
.mk (.type "builtin_function_or_method") none (.fields #[.builtin "type.__prepare__",.type "type"]) #[],
dO #[dE P "__module__" 246 (.str "papervault.errors" 187),dE P "__qualname__" 248 (.str "BadThing" 247),dE P "__firstlineno__" 250 (.int 8 249),dE P "__static_attributes__" 251 (.ref 59)] 4,
boot_o_7 P,
boot_o_8 P,
cO "BadThing" 241 "BadThing" 242 243 8 0 0 0 0 55 false 56 .none .none .none .none 244 8 245,
.mk (.type "frame") none .plain #[some (.ref 57),some (.ref 3),some (.ref 54),none,some (.str "papervault.errors" 187),none,some (.ref 0)],
.mk (.type "super") none (.fields #[.ref 61,.ref 61,.ref 61]) #[],
.mk (.type "builtin_function_or_method") none (.fields #[.builtin "object.__init_subclass__",.ref 61]) #[],
.mk (.type "builtin_function_or_method") none (.fields #[.builtin "type.__prepare__",.type "type"]) #[],
dO #[dE P "__module__" 262 (.str "papervault.errors" 187),dE P "__qualname__" 264 (.str "Clash" 263),dE P "__firstlineno__" 266 (.int 10 265),dE P "__init__" 275 (.ref 77),dE P "__static_attributes__" 278 (.ref 78)] 5,
boot_o_7 P,
.mk .none none (.fields #[.int 12 0,.int 4 0,.ref 76]) #[],
cO "Clash" 257 "Clash" 258 259 10 0 0 0 0 67 false 68 .none .none .none .none 260 10 261,
.mk (.type "frame") none .plain #[some (.ref 69),some (.ref 3),some (.ref 66),none,some (.str "papervault.errors" 187),none,some (.ref 0)],
boot_o_8 P,
f0 "__init__" "Clash.__init__" (L2.inClass (Pv.top 5) 0),
.mk (.type "super") none (.fields #[.ref 80,.ref 80,.ref 80]) #[],
.mk (.type "builtin_function_or_method") none (.fields #[.builtin "object.__init_subclass__",.ref 80]) #[],
.mk (.type "builtin_function_or_method") none (.fields #[.builtin "type.__prepare__",.type "type"]) #[],
dO #[dE P "__module__" 289 (.str "papervault.errors" 187),dE P "__qualname__" 291 (.str "NotOn" 290),dE P "__firstlineno__" 293 (.int 15 292),dE P "__static_attributes__" 294 (.ref 90)] 4,
boot_o_7 P,
boot_o_8 P,
cO "NotOn" 284 "NotOn" 285 286 15 0 0 0 0 86 false 87 .none .none .none .none 287 15 288,
.mk (.type "frame") none .plain #[some (.ref 88),some (.ref 3),some (.ref 85),none,some (.str "papervault.errors" 187),none,some (.ref 0)],
.mk (.type "super") none (.fields #[.ref 92,.ref 92,.ref 92]) #[],
.mk (.type "builtin_function_or_method") none (.fields #[.builtin "object.__init_subclass__",.ref 92]) #[],
.mk (.type "builtin_function_or_method") none (.fields #[.builtin "type.__prepare__",.type "type"]) #[],
dO #[dE P "__module__" 305 (.str "papervault.errors" 187),dE P "__qualname__" 307 (.str "NoState" 306),dE P "__firstlineno__" 309 (.int 17 308),dE P "__static_attributes__" 310 (.ref 102)] 4,
boot_o_7 P,
boot_o_8 P,
cO "NoState" 300 "NoState" 301 302 17 0 0 0 0 98 false 99 .none .none .none .none 303 17 304,
.mk (.type "frame") none .plain #[some (.ref 100),some (.ref 3),some (.ref 97),none,some (.str "papervault.errors" 187),none,some (.ref 0)],
.mk (.type "super") none (.fields #[.ref 104,.ref 104,.ref 104]) #[],
.mk (.type "builtin_function_or_method") none (.fields #[.builtin "object.__init_subclass__",.ref 104]) #[],
boot_o_8 P,
f0 "seal" "seal" (Pv.top 9),
boot_o_8 P,
f0 "codes" "codes" (Pv.top 10),
boot_o_8 P,
f0 "number_of" "number_of" (Pv.top 11),
boot_o_8 P,
f0 "is_whole" "is_whole" (Pv.top 13),
boot_o_8 P,
f0 "kind_of" "kind_of" (Pv.top 14),
boot_o_8 P,
f0 "ahead" "ahead" (Pv.top 15),
boot_o_8 P,
f0 "is_tuple_ahead" "is_tuple_ahead" (Pv.top 16),
boot_o_8 P,
f0 "node_at" "node_at" (Pv.top 25),
boot_o_8 P,
f0 "node_beneath" "node_beneath" (Pv.top 26),
boot_o_8 P,
f0 "is_node" "is_node" (Pv.top 27),
boot_o_8 P,
f0 "is_root" "is_root" (Pv.top 28),
boot_o_8 P,
f0 "size" "size" (Pv.top 29),
boot_o_8 P,
f0 "size_beneath" "size_beneath" (Pv.top 30),
boot_o_8 P,
f0 "rank" "rank" (Pv.top 31),
boot_o_8 P,
f0 "above" "above" (Pv.top 32),
boot_o_8 P,
f0 "side_of" "side_of" (Pv.top 34),
boot_o_8 P,
f0 "way_to" "way_to" (Pv.top 35),
boot_o_8 P,
f0 "ends_at" "ends_at" (Pv.top 36),
boot_o_8 P,
f0 "found" "found" (Pv.top 37),
boot_o_8 P,
f0 "is_empty" "is_empty" (Pv.top 38),
boot_o_8 P,
f0 "goes_left" "goes_left" (Pv.top 39),
boot_o_8 P,
f0 "goes_right" "goes_right" (Pv.top 40),
boot_o_8 P,
f0 "refuse_sum" "refuse_sum" (Pv.top 41),
boot_o_8 P,
f0 "stretch" "stretch" (Pv.top 42),
boot_o_8 P,
f0 "count_ahead" "count_ahead" (Pv.top 43),
boot_o_8 P,
f0 "counted" "counted" (Pv.top 44),
boot_o_8 P,
f0 "nth" "nth" (Pv.top 45),
boot_o_8 P,
f0 "with_tree" "with_tree" (Pv.top 46),
boot_o_8 P,
f0 "hung" "hung" (Pv.top 47),
boot_o_8 P,
f0 "parted" "parted" (Pv.top 48),
boot_o_8 P,
f0 "part" "part" (Pv.top 49),
boot_o_8 P,
f0 "place_in" "place_in" (Pv.top 50),
boot_o_8 P,
f0 "put" "put" (Pv.top 51),
boot_o_8 P,
f0 "cut" "cut" (Pv.top 52),
boot_o_8 P,
f0 "join" "join" (Pv.top 53),
boot_o_8 P,
f0 "joined" "joined" (Pv.top 54),
boot_o_8 P,
f0 "rising" "rising" (Pv.top 56),
boot_o_7 P,
.mk (.type "builtin_function_or_method") none (.fields #[.builtin "type.__prepare__",.type "type"]) #[],
dO #[dE P "__module__" 707 (.str "papervault.vaults" 692),dE P "__qualname__" 709 (.str "Vault" 708),dE P "__firstlineno__" 711 (.int 266 710),dE P "__init__" 718 (.ref 375),dE P "refuse_clash" 727 (.ref 382),dE P "lay" 736 (.ref 389),dE P "thing" 744 (.ref 396),dE P "__static_attributes__" 746 (.ref 397)] 8,
boot_o_7 P,
.mk .none none (.fields #[.int 268 0,.int 4 0,.ref 374,.int 271 0,.int 4 0,.ref 381,.int 275 0,.int 4 0,.ref 388,.int 281 0,.int 4 0,.ref 395]) #[],
cO "Vault" 702 "Vault" 703 704 266 0 0 0 0 365 false 366 .none .none .none .none 705 266 706,
.mk (.type "frame") none .plain #[some (.ref 367),some (.ref 3),some (.ref 364),none,some (.str "papervault.vaults" 692),none,some (.ref 0)],
boot_o_8 P,
f0 "__init__" "Vault.__init__" (L2.inClass (Pv.top 57) 0),
boot_o_8 P,
f0 "refuse_clash" "Vault.refuse_clash" (L2.inClass (Pv.top 57) 1),
boot_o_8 P,
f0 "lay" "Vault.lay" (L2.inClass (Pv.top 57) 2),
boot_o_8 P,
f0 "thing" "Vault.thing" (L2.inClass (Pv.top 57) 3),
.mk (.type "super") none (.fields #[.ref 399,.ref 399,.ref 399]) #[],
.mk (.type "builtin_function_or_method") none (.fields #[.builtin "object.__init_subclass__",.ref 399]) #[],
.mk (.type "builtin_function_or_method") none (.fields #[.builtin "type.__prepare__",.type "type"]) #[],
dO #[dE P "__module__" 761 (.str "papervault.vaults" 692),dE P "__qualname__" 763 (.str "Keeper" 762),dE P "__firstlineno__" 765 (.int 285 764),dE P "things" 772 (.ref 417),dE P "__static_attributes__" 773 (.ref 418)] 5,
boot_o_7 P,
.mk .none none (.fields #[.int 287 0,.int 4 0,.ref 416]) #[],
cO "Keeper" 756 "Keeper" 757 758 285 0 0 0 0 407 false 408 .none .none .none .none 759 285 760,
.mk (.type "frame") none .plain #[some (.ref 409),some (.ref 3),some (.ref 406),none,some (.str "papervault.vaults" 692),none,some (.ref 0)],
boot_o_8 P,
f0 "things" "Keeper.things" (L2.inClass (Pv.top 58) 0),
.mk (.type "super") none (.fields #[.ref 420,.ref 420,.ref 420]) #[],
.mk (.type "builtin_function_or_method") none (.fields #[.builtin "object.__init_subclass__",.ref 420]) #[],
boot_o_8 P,
f0 "_law_cell_at" "_law_cell_at" (Pv.top 60),
boot_o_8 P,
f0 "_law_mix" "_law_mix" (Pv.top 61),
boot_o_8 P,
f0 "_law_parts" "_law_parts" (Pv.top 62),
boot_o_8 P,
f0 "_law_text" "_law_text" (Pv.top 63),
boot_o_8 P,
f0 "_law_key" "_law_key" (Pv.top 64),
boot_o_8 P,
f0 "_law_worth" "_law_worth" (Pv.top 65),
boot_o_8 P,
f0 "_law_sort" "_law_sort" (Pv.top 66),
boot_o_8 P,
f0 "_law_ahead" "_law_ahead" (Pv.top 67),
boot_o_8 P,
f0 "_law_put_in" "_law_put_in" (Pv.top 68),
boot_o_8 P,
f0 "_law_none" "_law_none" (Pv.top 69),
boot_o_8 P,
f0 "_law_beside" "_law_beside" (Pv.top 70),
boot_o_8 P,
f0 "_law_asked" "_law_asked" (Pv.top 71),
boot_o_8 P,
f0 "_law_refused" "_law_refused" (Pv.top 72),
boot_o_8 P,
f0 "_law_three" "_law_three" (Pv.top 73),
boot_o_8 P,
f0 "_law_uneven" "_law_uneven" (Pv.top 74),
boot_o_8 P,
f0 "_law_cut_itself" "_law_cut_itself" (Pv.top 75),
boot_o_8 P,
f0 "_law_unread" "_law_unread" (Pv.top 76),
boot_o_8 P,
f0 "_law_right" "_law_right" (Pv.top 77),
boot_o_8 P,
f0 "_law_walked" "_law_walked" (Pv.top 78),
boot_o_8 P,
f0 "law" "law" (Pv.top 79)]
def FL:List Obj:=wv [2,2,11,1,6,4,2,1,6,3,2,1,6,3,2,1,6,3,2,1,6,1,1,2,1,5,2,1,6,3,2,1,6,3,2,1,1,2,1,3,2,3,1,2,1,3,1,2,1,3,1,2,1,3,1,2,1,3,1,2,1,3,1,2,1,3,1,2,1,3,1,2,1,3,1,2,1,3,1,2,1,3,1,2,1,3,1,2,1,3,1,2,1,3,1,2,1,3,1,2,1,3,1,2,1,3,1,2,1,3,1,2,1,3,1,2,1,3,1,2,1,3,1,2,1,3,1,2,1,3,1,2,1,3,1,2,1,3,1,2,1,3,1,2,1,3,1,2,1,3,1,2,1,3,1,2,1,3,1,2,1,3,1,2,1,3,1,2,1,3,1,2,1,3,1,2,1,3,2,2,7,1,1,2,1,3,1,2,1,3,1,2,1,3,1,2,1,7,2,1,6,1,1,2,1,5,2,1,1,2,1,3,1,2,1,3,1,2,1,3,1,2,1,3,1,2,1,3,1,2,1,3,1,2,1,3,1,2,1,3,1,2,1,3,2,3,1,2,1,3,1,2,1,3,1,2,1,3,1,2,1,3,2,3,1,2,1,3,1,2,1,3,1,2,1,3,1,2,1,3,1,2,1,2] (OL P) ((KK P).map (·.2))
def T0:BT:=bt 12 ((((FL P).take 15).set 3 (oo0 P)).set 12 (boot_o_8 P))
def T1:BT:=bt 12 ((((FL P).take 154).set 3 (oo1 P)).set 12 (oo2 P))
def T2:BT:=bt 12 ((((FL P).take 472).set 3 (oo3 P)).set 12 (oo4 P))
def T3:BT:=bt 12 (FL P)
def HF:Heap:={objs:=⟨FL P⟩}
end
noncomputable def VQ:Program:={PySem.Challenge.pw_papervault_k35_no_nodes with main:={PySem.Challenge.pw_papervault_k35_no_nodes.main with body:=[top 1,top 2,top 3,top 4,top 5,top 6,top 7,top 9,top 10,top 11,top 13,top 14,top 15,top 16,top 18,top 19,top 20,top 21,top 22,top 23,top 24,top 25,top 26,top 27,top 28,top 29,top 30,top 31,top 32,top 34,top 35,top 36,top 37,top 38,top 39,top 40,top 41,top 42,top 43,top 44,top 45,top 46,top 47,top 48,top 49,top 50,top 51,top 52,top 53,top 54,top 56,top 57,top 58,top 60,top 61,top 62,top 63,top 64,top 65,top 66,top 67,top 68,top 69,top 70,top 71,top 72,top 73,top 74,top 75,top 76,top 77,top 78,top 79]}}
noncomputable abbrev RQ:OpenRow:=OpenLaw.row PySem.Challenge.rw_papervault_k35_no_nodes
noncomputable def EV:Env:={scope:=RQ.prog.main.scope,locals:=mainNs,globals:=mainNs,cells:=[],code:=.ref 13,frame:=some 14}
noncomputable abbrev BQ:List Stmt:=behindTheImports RQ.prog
noncomputable abbrev CQ:Code:=.body BQ EV
noncomputable abbrev TQ:List Frame:=[topFrame ⟨0,0,0,0⟩]
noncomputable abbrev ST (t:BT)(n k:Nat)(os:OsState):SharedT:=⟨t,n,{}, #[],{},k,os⟩
theorem go0 (w:World):(fun os=>topGo treeTable RQ.prog w 11 (some (.ref 6)) 12 {heap:=boot_heap w.params,drawn:=boot_drawn,toks:=boot_toks,os:=os} (topStub RQ.prog))=fun os=>some ((ST (T0 w.params) 15 187 os).abs,⟨denote treeTable CQ,CQ,⟨0,0,0,0⟩,TQ⟩):=by kernel_rfl
theorem go1 (w:World):(fun os=>segRun treeTable RQ.prog w 11 (some (.ref 6)) 1 1 (ST (T0 w.params) 15 187 os).abs (blockOf BQ EV CQ ⟨0,0,0,0⟩ TQ))=fun os=>some (Flow.next,(ST (T0 w.params) 15 187 os).abs,CQ,⟨0,0,0,0⟩):=by kernel_rfl
theorem pc1 (w:World):(fun os=>PySem.W.Fast.tw10110043849684766642 PySem.W.Fast.tw14364793385576792824 RQ.prog w 11 (some (.ref 6)) 1 1829 (ST (T0 w.params) 15 187 os) (piecesOf (BQ.take 24) EV CQ ⟨0,0,0,0⟩ TQ))=fun os=>some (Flow.next,ST (T1 w.params) 154 389 os,CQ,⟨74,0,74,10⟩):=by kernel_rfl
theorem sg1 (w:World)(os:OsState):segRunT treeTable RQ.prog w 11 (some (.ref 6)) 1 1829 (ST (T0 w.params) 15 187 os) (piecesOf (BQ.take 24) EV CQ ⟨0,0,0,0⟩ TQ)=some (Flow.next,ST (T1 w.params) 154 389 os,CQ,⟨74,0,74,10⟩):=by
 rw [PySem.W.Fast.te10110043849684766642,PySem.W.Fast.te14364793385576792824]
 exact congrFun (pc1 w) os
theorem pc2 (w:World):(fun os=>PySem.W.Fast.tw10110043849684766642 PySem.W.Fast.tw14364793385576792824 RQ.prog w 11 (some (.ref 6)) 1 1832 (ST (T1 w.params) 154 389 os) (piecesOf ((BQ.drop 24).take 43) EV CQ ⟨74,0,74,10⟩ TQ))=fun os=>some (Flow.next,ST (T2 w.params) 472 845 os,CQ,⟨324,0,331,12⟩):=by kernel_rfl
theorem sg2 (w:World)(os:OsState):segRunT treeTable RQ.prog w 11 (some (.ref 6)) 1 1832 (ST (T1 w.params) 154 389 os) (piecesOf ((BQ.drop 24).take 43) EV CQ ⟨74,0,74,10⟩ TQ)=some (Flow.next,ST (T2 w.params) 472 845 os,CQ,⟨324,0,331,12⟩):=by
 rw [PySem.W.Fast.te10110043849684766642,PySem.W.Fast.te14364793385576792824]
 exact congrFun (pc2 w) os
theorem pc3 (w:World):(fun os=>PySem.W.Fast.tw10110043849684766642 PySem.W.Fast.tw14364793385576792824 RQ.prog w 11 (some (.ref 6)) 1 442 (ST (T2 w.params) 472 845 os) (piecesOf (((BQ.drop 24).drop 43).take 13) EV CQ ⟨324,0,331,12⟩ TQ))=fun os=>some (Flow.next,ST (T3 w.params) 559 984 os,CQ,⟨482,0,491,15⟩):=by kernel_rfl
theorem sg3 (w:World)(os:OsState):segRunT treeTable RQ.prog w 11 (some (.ref 6)) 1 442 (ST (T2 w.params) 472 845 os) (piecesOf (((BQ.drop 24).drop 43).take 13) EV CQ ⟨324,0,331,12⟩ TQ)=some (Flow.next,ST (T3 w.params) 559 984 os,CQ,⟨482,0,491,15⟩):=by
 rw [PySem.W.Fast.te10110043849684766642,PySem.W.Fast.te14364793385576792824]
 exact congrFun (pc3 w) os
noncomputable abbrev SF (w:World)(os:OsState):Shared:={heap:=HF w.params,toks:=984,os:=os}
theorem goN (w:World):(fun os=>topRun treeTable RQ.prog w 11 (some (.ref 6)) 3 (ST (T3 w.params) 559 984 os).abs ⟨doneF Flow.next,CQ,⟨482,0,491,15⟩,TQ⟩)=fun os=>some (SF w os):=by kernel_rfl
theorem goE:(((BQ.drop 24).drop 43).drop 13)=[]:=by kernel_rfl
theorem goA {w:World}{N:Nat}{s r:Shared}{b:List Stmt}{q:Pos}(k:Nat)(h:topRun treeTable RQ.prog w 11 (some (.ref 6)) N s (restOf (b.take k++b.drop k) EV CQ q TQ)=some r):topRun treeTable RQ.prog w 11 (some (.ref 6)) N s (restOf b EV CQ q TQ)=some r:=by rwa [List.take_append_drop] at h
theorem runs (w:World)(os:OsState):topRun treeTable RQ.prog w 11 (some (.ref 6)) (12+(1+(1829+(1832+(442+(3)))))) {heap:=boot_heap w.params,drawn:=boot_drawn,toks:=boot_toks,os:=os} (topStub RQ.prog)=some (SF w os):=by
 refine go_top (congrFun (go0 w) os) ?_
 refine piece_block (congrFun (go1 w) os) ?_
 refine goA 24 ?_
 refine piece_app (segRun_of (sg1 w os)) ?_
 refine goA 43 ?_
 refine piece_app (segRun_of (sg2 w os)) ?_
 refine goA 13 ?_
 refine piece_app (segRun_of (sg3 w os)) ?_
 rw [goE]
 exact piece_nil (congrFun (goN w) os)
noncomputable abbrev SQ (s:Shared):=PySem.W.Fast.tw4187177175401517315 VQ [] [] (fun s=>xlAt VQ [] s && recOk (RowW.records (OpenRow.toRowW RQ)) s) true s
theorem zmF:[]=importedModules RQ.prog.main.body:=by kernel_rfl
theorem opn (w:World):(fencedOpening treeTable RQ.prog w 4119).map (fun s=>(s.heap,s.gens,s.drawn,s.toks))=some (boot_heap w.params, #[],boot_drawn,boot_toks):=by kernel_rfl
theorem obs0 (w:World)(os:OsState):(staticsOk [] (boot_heap w.params) (HF w.params) && namesBound RQ.prog (HF w.params) && gensDone (SF w os) && laidKept (boot_heap w.params) (HF w.params))=true:=by kernel_rfl
theorem obs1 (w:World)(os:OsState):(SQ (SF w os)).1=(openGood VQ []).1:=by kernel_rfl
theorem obs2 (w:World)(os:OsState):(SQ (SF w os)).2.1=(openGood VQ []).2.1:=by kernel_rfl
theorem obs3 (w:World)(os:OsState):(SQ (SF w os)).2.2.1=(openGood VQ []).2.2.1:=by kernel_rfl
theorem obs4 (w:World)(os:OsState):(SQ (SF w os)).2.2.2.1=(openGood VQ []).2.2.2.1:=by kernel_rfl
theorem obs5 (w:World)(os:OsState):(SQ (SF w os)).2.2.2.2.1=(openGood VQ []).2.2.2.2.1:=by kernel_rfl
theorem obs6 (w:World)(os:OsState):(SQ (SF w os)).2.2.2.2.2=(openGood VQ []).2.2.2.2.2:=by kernel_rfl
theorem obs7 (w:World):KA.map (HF w.params).get? =(KK w.params).map fun p=>some p.2:=by kernel_rfl
theorem left:LeftO RQ.prog VQ [] (fun s=>xlAt VQ [] s && recOk (RowW.records (OpenRow.toRowW RQ)) s) (fun s=>KA.map s.heap.get?) (fun w=>(KK w.params).map fun p=>some p.2) 4119:=by
 refine LeftO.of_pieces (H₀:=boot_heap) (H₁:=HF) (gs₀:= #[]) (gs₁:= #[]) (d₀:=boot_drawn) (d₁:={}) (k₀:=boot_toks) (k₁:=984) (m₀:=11) (ann:=some (.ref 6)) (M:=12+(1+(1829+(1832+(442+(3)))))) opn (fun w=>by kernel_rfl) runs (by kernel_rfl) fun w=>funext fun os=>?_
 rw [←zmF]
 refine Prod.ext (obs0 w os) (Prod.ext ?_ (obs7 w))
 rw [PySem.W.Fast.te4187177175401517315]
 exact Prod.ext (obs1 w os) (Prod.ext (obs2 w os) (Prod.ext (obs3 w os) (Prod.ext (obs4 w os) (Prod.ext (obs5 w os) (obs6 w os)))))
theorem addrs:∀P,KA=(KK P).map (·.1):=fun P=>by kernel_rfl
theorem said:PySem.Challenge.rw_papervault_k35_no_nodes.wellSaid=true:=by kernel_rfl
end Pv
namespace L2
open PySem PySem.Spec PyProof.Rows
abbrev Key:=Sum Int Str
def zeW:Key→Value→Bool
 | .inl k,v=>Value.isInt k v
 | .inr x,v=>Value.isStrOf x v
def keyH (w:World):Key→Int
 | .inl k=>hashInt k
 | .inr x=>hashStr w x
theorem zal:∀{k:Key} {v:Value},zeW k v=true→(∃i t,k=Sum.inl i∧v=Value.int i t)∨(∃x t,k=Sum.inr x∧v=Value.str x t)
 | .inl i,v,h=>by
  obtain ⟨t,e⟩:=Value.isInt_shape (k:=i) (v:=v) h
  exact .inl ⟨i,t,rfl,e⟩
 | .inr x,v,h=>by
  obtain ⟨t,e⟩:=Value.isStrOf_shape (x:=x) (v:=v) h
  exact .inr ⟨x,t,rfl,e⟩
theorem zh5 (i:Int)(t:Tok):zeW (.inl i) (.int i t)=true:=by simp [zeW,Value.isInt]
theorem zhU (x:Str)(t:Tok):zeW (.inr x) (.str x t)=true:=by simp [zeW,Value.isStrOf]
theorem zlD (a b:Int):decide ((Sum.inl a:Key)=Sum.inl b)=(a==b):=by
 by_cases e:a=b
 ·subst e;simp
 ·have h:¬(Sum.inl a:Key)=Sum.inl b:=fun q=>e (Sum.inl.inj q)
  rw [decide_eq_false h]
  exact (beq_eq_false_iff_ne.mpr e).symm
theorem zly (a b:Str):decide ((Sum.inr a:Key)=Sum.inr b)=decide (a=b):=by
 by_cases e:a=b
 ·subst e;simp
 ·have h:¬(Sum.inr a:Key)=Sum.inr b:=fun q=>e (Sum.inr.inj q)
  rw [decide_eq_false h,decide_eq_false e]
theorem zl6 (a:Int)(b:Str):decide ((Sum.inl a:Key)=Sum.inr b)=false:=decide_eq_false (fun q=>nomatch q)
theorem zlY (a:Str)(b:Int):decide ((Sum.inr a:Key)=Sum.inl b)=false:=decide_eq_false (fun q=>nomatch q)
def zaK (prog:Program)(w:World):PySem.KeyKind prog w Key where
 is:=zeW
 hash:=keyH w
 inj:=fun v a b ha hb=>by
  rcases zal ha with ⟨i,t,rfl,rfl⟩ | ⟨x,t,rfl,rfl⟩
  ·rcases zal hb with ⟨j,u,rfl,e⟩ | ⟨y,u,rfl,e⟩
   ·injection e with e1 _;rw [e1]
   ·exact nomatch e
  ·rcases zal hb with ⟨j,u,rfl,e⟩ | ⟨y,u,rfl,e⟩
   ·exact nomatch e
   ·injection e with e1 _;rw [e1]
 byValue:=fun k v h=>by
  rcases zal h with ⟨i,t,rfl,rfl⟩ | ⟨x,t,rfl,rfl⟩ <;> rfl
 pyHash:=fun hv h=>by
  rcases zal hv with ⟨i,t,rfl,rfl⟩ | ⟨x,t,rfl,rfl⟩
  ·exact wpAny_pyHash_int h
  ·exact wpAny_pyHash_str h
 eqBool:=fun hu hv h=>by
  rcases zal hu with ⟨i,t,rfl,rfl⟩ | ⟨x,t,rfl,rfl⟩
  ·rcases zal hv with ⟨j,u,rfl,rfl⟩ | ⟨y,u,rfl,rfl⟩
   ·rw [zlD] at h;exact wpAny_eqBool_int h
   ·rw [zl6] at h;exact SeqAt.EqAt.int_str i t y u _ _ _ _ h
  ·rcases zal hv with ⟨j,u,rfl,rfl⟩ | ⟨y,u,rfl,rfl⟩
   ·rw [zlY] at h;exact SeqAt.EqAt.str_int x t j u _ _ _ _ h
   ·rw [zly] at h;exact wpAny_eqBool_str h
 «strs»:=fun k x t v h=>by
  rcases zal h with ⟨i,u,rfl,e⟩ | ⟨y,u,rfl,e⟩
  ·exact nomatch e
  ·injection e with e1 _
   subst e1
   cases v <;> rfl
theorem zf0 (prog:Program)(w:World)(i:Int)(t:Tok):(zaK prog w).is (.inl i) (.int i t)=true:=zh5 i t
theorem zga (prog:Program)(w:World)(x:Str)(t:Tok):(zaK prog w).is (.inr x) (.str x t)=true:=zhU x t
end L2
namespace L2
open PySem PySem.Spec PyProof.Rows
inductive V where
 | non | bl (b:Bool) | int (i:Int) | str (x:Str) | byt (b:Array UInt8) | flt (b:UInt64) | ref (a:Addr) | ty (n:String)
 deriving DecidableEq
def RelV:V→Value→Prop
 | .non,u=>u=Value.none
 | .bl b,u=>u=Value.bool b
 | .int i,u=>∃t,u=Value.int i t
 | .str x,u=>∃t,u=Value.str x t
 | .byt b,u=>∃t,u=Value.bytes b t
 | .flt b,u=>∃t,u=Value.float b t
 | .ref a,u=>u=Value.ref a
 | .ty n,u=>u=Value.type n
abbrev Vals:List V→List Value→Prop:=Paired RelV
theorem Vals.length {xs:List V}{us:List Value}(r:Vals xs us):xs.length=us.length:=Paired.length r
theorem Vals.get:∀{xs:List V} {us:List Value} {i:Nat} {x:V},Vals xs us→xs[i]? =some x→∃u,us[i]? =some u∧RelV x u
 | _,_,_,_,.nil,e=>by simp at e
 | _,_,0,_,.cons r _,e=>by simp at e;subst e;exact ⟨_,rfl,r⟩
 | _,_,i+1,x,.cons _ t,e=>by
  obtain ⟨u,h1,h2⟩:=Vals.get (i:=i) (x:=x) t (by simpa using e)
  exact ⟨u,by simpa using h1,h2⟩
theorem Vals.set {x:V}{u:Value}(r:RelV x u):∀{xs:List V} {us:List Value} (i:Nat),Vals xs us→Vals (xs.set i x) (us.set i u)
 | _,_,_,.nil=>.nil
 | _,_,0,.cons _ t=>.cons r t
 | _,_,i+1,.cons q t=>.cons q (Vals.set r i t)
theorem Vals.append:∀{xs ys:List V} {us ws:List Value},Vals xs us→Vals ys ws→Vals (xs++ys) (us++ws)
 | _,_,_,_,.nil,s=>s
 | _,_,_,_,.cons r t,s=>.cons r (Vals.append t s)
theorem Vals.take:∀{xs:List V} {us:List Value} (n:Nat),Vals xs us→Vals (xs.take n) (us.take n)
 | _,_,0,_=>.nil
 | _,_,_+1,.nil=>.nil
 | _,_,n+1,.cons r t=>.cons r (Vals.take n t)
theorem Vals.drop:∀{xs:List V} {us:List Value} (n:Nat),Vals xs us→Vals (xs.drop n) (us.drop n)
 | _,_,0,r=>r
 | _,_,_+1,.nil=>.nil
 | _,_,n+1,.cons _ t=>Vals.drop n t
theorem Vals.none_of:∀{xs:List V} {us:List Value} {i:Nat},Vals xs us→xs[i]? =none→us[i]? =none:=fun {xs us i} r e=>by
 have h1:=r.length
 have h2:xs.length≤i:=List.getElem?_eq_none_iff.mp e
 exact List.getElem?_eq_none_iff.mpr (by omega)
def RelO:Option V→Option Value→Prop
 | some v,some u=>RelV v u
 | none,none=>True
 | _,_=>False
def KV {κ:Type}:List (κ ×V)→List (κ ×Value)→Prop:=Paired fun (p:κ ×V) (q:κ ×Value)=>p.1=q.1∧RelV p.2 q.2
def kV:Key→V
 | .inl i=>.int i
 | .inr x=>.str x
inductive HO where
 | lst (xs:List V)
 | tup (xs:List V)
 | dK (kvs:List (Key ×V)) | dT (kvs:List (List Key ×V))
 | set (S:Int→Bool) (n:Nat)
 | ins (C dx:Addr) (fs:List (Str ×V))
 | own (x:Addr)
 | xd (fs:List (Str ×V))
 | met (f x:Addr)
 | rng (lo hi:Int)
 | frz (o:Obj) (u:HO)
 | tbl (ps:Array Value)
 | ext (φ:Heap→Prop)
abbrev Hp:=Addr→Option HO
def upd (H:Hp)(a:Addr)(o:HO):Hp:=fun b=>if b=a then some o else H b
theorem zf {H:Hp}{a:Addr}{o:HO}:upd H a o a=some o:=by unfold upd;rw [if_pos rfl]
theorem zq {H:Hp}{a b:Addr}{o:HO}(h:b≠a):upd H a o b=H b:=by unfold upd;rw [if_neg h]
theorem zhh {H:Hp}{a:Addr}{o u:HO}:upd (upd H a o) a u=upd H a u:=by
 funext b;unfold upd;split <;> rfl
theorem zbg {H:Hp}{a b:Addr}{o u:HO}(h:H a=some o)(h':H b=some u)(d:o≠u):a≠b:=by
 intro e;subst e;rw [h] at h';exact d (Option.some.inj h')
theorem zr {H:Hp}{a b:Addr}{o:HO}(h:H a=some o)(h':H b=none):a≠b:=by
 intro e;subst e;rw [h] at h';cases h'
section
variable (P:Program)(w:World)
def z6 (H:Hp)(h:Heap)(a:Addr):HO→Prop
 | .lst xs=>xs.length≤sizeLine∧∃(its:List Value) (n:Nat),Vals xs its∧h.get? a=some {cls:=.type "list",data:=.seq its.toArray n}
 | .tup xs=>xs.length≤sizeLine∧∃its:List Value,Vals xs its∧IsTup h a its.toArray
 | .dK kvs=>kvs.length≤sizeLine∧(a==sysModules)=false∧∃vs,KV kvs vs∧h.DictOf (zaK P w) a vs
 | .dT kvs=>kvs.length≤sizeLine∧(a==sysModules)=false∧∃xs:List (List Key ×Addr ×Value),
   Paired (fun (p:List Key ×V) (q:List Key ×Addr ×Value)=>p.1=q.1∧H q.2.1=some (.tup (p.1.map kV))∧RelV p.2 q.2.2) kvs xs∧
   ∃o es ep,h.get? a=some o∧o.ExactDict∧o.data=.dict es ep∧es.toList=xs.map (entryOfKey (tupleKind (zaK P w)))∧(xs.map (·.1)).Nodup
 | .set S n=>h.SetOf (intKind P w) a S n
 | .ins C dx fs=>H dx=some (.own a)∧fs.length≤1000∧dx≠a∧h.get? a=some (PySem.W.instObj C dx)∧
   ∃mA,h.Ns1 dx mA∧(∀f,RelO (fs.lookup f) (mA f))∧PySem.Within mA (fs.map (·.1))
 | .own _=>∃o,h.get? a=some o
 | .xd fs=>∃mA,h.Ns1 a mA∧∀f,RelO (fs.lookup f) (mA f)
 | .rng lo hi=>∃t u v,h.get? a=some {cls:=.type "range",data:=.fields #[.int lo t,.int hi u,.int 1 v]}
 | .frz o u=>h.get? a=some o∧z6 H h a u
 | .tbl ps=>h.get? a=some {cls:=.none,data:=.fields ps}
 | .met f x=>h.get? a=some (PySem.W.methodObj (.ref f) (.ref x))
 | .ext φ=>φ h∧(∃o,h.get? a=some o)∧∀h1 h2:Heap,φ h1→(∀o,h1.get? a=some o→h2.get? a=some o)→φ h2
def HOk (H:Hp)(h:Heap):Prop:=∀a o,H a=some o→z6 P w H h a o
end
section
variable {P:Program}{w:World}{H H':Hp}{h h':Heap}{a:Addr}{o:HO}
theorem z6.lt (x:z6 P w H h a o):a < h.objs.size:=by
 cases o with
 | lst xs=>obtain ⟨_,_,_,_,e⟩:=x;exact Heap.lt_size e
 | tup xs=>obtain ⟨_,_,_,p⟩:=x;exact p.lt
 | dK kvs=>obtain ⟨_,_,_,_,o,_,_,e,_⟩:=x;exact Heap.lt_size e
 | dT kvs=>obtain ⟨_,_,_,_,o,_,_,e,_⟩:=x;exact Heap.lt_size e
 | set S n=>obtain ⟨o,_,_,_,e,_⟩:=x;exact Heap.lt_size e
 | ins C dx fs=>obtain ⟨_,_,_,e,_⟩:=x;exact Heap.lt_size e
 | own y=>obtain ⟨_,e⟩:=x;exact Heap.lt_size e
 | xd fs=>obtain ⟨_,⟨_,_,_,e,_⟩,_⟩:=x;exact Heap.lt_size e
 | rng lo hi=>obtain ⟨_,_,_,e⟩:=x;exact Heap.lt_size e
 | frz ob u=>obtain ⟨e,_⟩:=x;exact Heap.lt_size e
 | tbl ps=>exact Heap.lt_size (show h.get? a=some _ from x)
 | met f y=>exact Heap.lt_size (show h.get? a=some _ from x)
 | ext φ=>obtain ⟨_,⟨_,e⟩,_⟩:=x;exact Heap.lt_size e
theorem Paired.mapP {α β:Type}{F G:α→β→Prop}:∀{l₁:List α} {l₂:List β},Paired F l₁ l₂→(∀a b,F a b→G a b)→Paired G l₁ l₂
 | _,_,.nil,_=>.nil
 | _,_,.cons r t,f=>.cons (f _ _ r) (Paired.mapP t f)
theorem z6.stay (x:z6 P w H h a o)(k:∀b u,(b=a∨H b=some (.own a))→h.get? b=some u→h'.get? b=some u)
  (ho:∀b,H b=some (.own a)→H' b=some (.own a)) (ht:∀b xs,H b=some (.tup xs)→H' b=some (.tup xs)):z6 P w H' h' a o:=by
 induction o with
 | lst xs=>obtain ⟨z,its,n,r,e⟩:=x;exact ⟨z,its,n,r,k _ _ (.inl rfl) e⟩
 | tup xs=>obtain ⟨z,its,r,ob,e,c⟩:=x;exact ⟨z,its,r,ob,k _ _ (.inl rfl) e,c⟩
 | dK kvs=>obtain ⟨z,y,vs,r,ob,es,ep,e,c⟩:=x;exact ⟨z,y,vs,r,ob,es,ep,k _ _ (.inl rfl) e,c⟩
 | dT kvs=>
  obtain ⟨z,y,xs,r,ob,es,ep,e,c⟩:=x
  exact ⟨z,y,xs,Paired.mapP r fun p q z=>⟨z.1,ht _ _ z.2.1,z.2.2⟩,ob,es,ep,k _ _ (.inl rfl) e,c⟩
 | set S n=>obtain ⟨ob,es,ep,t,e,c⟩:=x;exact ⟨ob,es,ep,t,k _ _ (.inl rfl) e,c⟩
 | ins C dx fs=>
  obtain ⟨d,z,ne,e,mA,⟨od,es,ep,e2,c⟩,r⟩:=x
  exact ⟨ho _ d,z,ne,k _ _ (.inl rfl) e,mA,⟨od,es,ep,k _ _ (.inr d) e2,c⟩,r⟩
 | own y=>obtain ⟨ob,e⟩:=x;exact ⟨ob,k _ _ (.inl rfl) e⟩
 | xd fs=>obtain ⟨mA,⟨od,es,ep,e,c⟩,r⟩:=x;exact ⟨mA,⟨od,es,ep,k _ _ (.inl rfl) e,c⟩,r⟩
 | rng lo hi=>obtain ⟨t,u,v,e⟩:=x;exact ⟨t,u,v,k _ _ (.inl rfl) e⟩
 | frz ob u ih=>obtain ⟨e,q⟩:=x;exact ⟨k _ _ (.inl rfl) e,ih q⟩
 | tbl ps=>
  have e:h.get? a=some {cls:=.none,data:=.fields ps}:=x
  show h'.get? a=some {cls:=.none,data:=.fields ps}
  exact k a _ (.inl rfl) e
 | met f y=>
  have e:h.get? a=some (PySem.W.methodObj (.ref f) (.ref y)):=x
  show h'.get? a=some (PySem.W.methodObj (.ref f) (.ref y))
  exact k a _ (.inl rfl) e
 | ext φ=>obtain ⟨p,⟨o,e⟩,st⟩:=x;exact ⟨st _ _ p fun o q=>k _ _ (.inl rfl) q,⟨o,k _ _ (.inl rfl) e⟩,st⟩
theorem HOk.lt (x:HOk P w H h)(e:H a=some o):a < h.objs.size:=(x a o e).lt
theorem HOk.fresh (x:HOk P w H h)(e:h.objs.size≤a):H a=none:=by
 cases q:H a with
 | none=>rfl
 | some u=>exact absurd (Nat.lt_of_lt_of_le (x.lt q) e) (Nat.lt_irrefl _)
theorem HOk.kept (x:HOk P w H h)(k:∀b u,h.get? b=some u→h'.get? b=some u):HOk P w H h':=fun a o e=>
 (x a o e).stay (fun b u _ q=>k b u q) (fun _ q=>q) fun _ _ q=>q
theorem HOk.laid (x:HOk P w H h)(k:∀b u,h.get? b=some u→h'.get? b=some u)(hp:h.objs.size≤a)(new:z6 P w (upd H a o) h' a o):HOk P w (upd H a o) h':=fun b u e=>by
 have hn:=x.fresh hp
 by_cases hb:b=a
 ·subst hb;rw [zf] at e;cases e;exact new
 ·rw [zq hb] at e
  exact (x b u e).stay (fun c v _ q=>k c v q) (fun c q=>by rw [zq (zr q hn)];exact q) fun c xs q=>by rw [zq (zr q hn)];exact q
end
def Rd (H:Hp)(a:Addr)(u:HO):Prop:=H a=some u∨∃o,H a=some (.frz o u)
theorem Rd.of {H:Hp}{a:Addr}{u:HO}(h:H a=some u):Rd H a u:=.inl h
theorem Rd.ok {P:Program}{w:World}{H:Hp}{h:Heap}{a:Addr}{u:HO}(r:Rd H a u)(x:HOk P w H h):z6 P w H h a u:=by
 rcases r with r | ⟨o,r⟩
 ·exact x a u r
 ·obtain ⟨_,q⟩:=x a _ r
  exact q
def Mut:Option HO→Prop
 | some (.lst _)=>True
 | some (.dK _)=>True
 | some (.dT _)=>True
 | some (.set _ _)=>True
 | some (.ins _ _ _)=>True
 | some (.ext _)=>True
 | _=>False
section
variable {P:Program}{w:World}{H:Hp}{h h':Heap}{x e:Addr}{o':HO}
theorem HOk.write (ok:HOk P w H h)(mu:Mut (H x))(he:e=x∨H e=some (.own x))(k:∀b u,b≠e→h.get? b=some u→h'.get? b=some u)(heo:∃u,h'.get? e=some u)
  (new:z6 P w (upd H x o') h' x o'):HOk P w (upd H x o') h':=fun b u q=>by
 have nown:∀c y,H c=some (.own y)→c≠x:=fun c y r z=>by subst z;rw [r] at mu;exact mu
 have ntup:∀c xs,H c=some (.tup xs)→c≠x:=fun c xs r z=>by subst z;rw [r] at mu;exact mu
 by_cases hb:b=x
 ·subst hb;rw [zf] at q;cases q;exact new
 ·rw [zq hb] at q
  by_cases hbe:b=e
  ·have q':H b=some (.own x):=by
    rcases he with z | z
    ·exact absurd (hbe.trans z) hb
    ·rw [hbe];exact z
   rw [q] at q';cases q'
   obtain ⟨v,hv⟩:=heo
   exact ⟨v,by rw [hbe];exact hv⟩
  ·refine (ok b u q).stay (fun c v hc r=>k c v ?_ r) (fun c r=>by rw [zq (nown c b r)];exact r) fun c xs r=>by rw [zq (ntup c xs r)];exact r
   rcases hc with rfl | hc
   ·exact hbe
   ·rintro rfl
    rcases he with z | z
    ·exact nown c b hc z
    ·rw [hc] at z;cases z;exact hb rfl
end
structure Un (fs ex:List Addr)(H H':Hp)(h h':Heap):Prop where
 keep:∀b o,h.get? b=some o→H b=none→b∉fs→b∉ex→h'.get? b=some o
 slot:∀b o,h.get? b=some o→H b=none→b∈fs→b∉ex→∃sl,h'.get? b=some {o with slots:=sl}
 free:∀b o,h.get? b=some o→H b=none→b∉ex→H' b=none
 there:∀b o,h.get? b=some o→b∉ex→∃o',h'.get? b=some o'
 tups:∀b xs,H b=some (.tup xs)→H' b=some (.tup xs)
 frzs:∀b o u,H b=some (.frz o u)→H' b=some (.frz o u)
 tbls:∀b ps,H b=some (.tbl ps)→∃more,H' b=some (.tbl (ps++more))
section
variable {fs fs' ex ex':List Addr}{H H1 H2:Hp}{h h1 h2 h':Heap}{a x e:Addr}{o:HO}
theorem Un.any (u:Un fs ex H H1 h h1){b:Addr}{ob:Obj}(q:h.get? b=some ob)(n:H b=none)(hx:b∉ex):∃sl,h1.get? b=some {ob with slots:=sl}:=by
 by_cases hb:b∈fs
 ·exact u.slot b ob q n hb hx
 ·exact ⟨ob.slots,u.keep b ob q n hb hx⟩
theorem Un.trans (a:Un fs ex H H1 h h1)(b:Un fs ex H1 H2 h1 h2):Un fs ex H H2 h h2 where
 keep:=fun c ob q n hc hx=>b.keep c ob (a.keep c ob q n hc hx) (a.free c ob q n hx) hc hx
 slot:=fun c ob q n hc hx=>by
  obtain ⟨sl,e1⟩:=a.slot c ob q n hc hx
  obtain ⟨sl',e2⟩:=b.slot c _ e1 (a.free c ob q n hx) hc hx
  exact ⟨sl',e2⟩
 free:=fun c ob q n hx=>by
  obtain ⟨o',e1⟩:=a.there c ob q hx
  exact b.free c o' e1 (a.free c ob q n hx) hx
 there:=fun c ob q hx=>by
  obtain ⟨o',e1⟩:=a.there c ob q hx
  exact b.there c o' e1 hx
 tups:=fun c xs q=>b.tups c xs (a.tups c xs q)
 frzs:=fun c ob xs q=>b.frzs c ob xs (a.frzs c ob xs q)
 tbls:=fun c ps q=>by
  obtain ⟨m1,e1⟩:=a.tbls c ps q
  obtain ⟨m2,e2⟩:=b.tbls c _ e1
  exact ⟨m1++m2,by rw [e2,Array.append_assoc]⟩
theorem Un.kept (k:∀b u,h.get? b=some u→h'.get? b=some u):Un fs ex H H h h':=
 ⟨fun b ob q _ _ _=>k b ob q,fun b ob q _ _ _=>⟨ob.slots,k b ob q⟩,fun _ _ _ n _=>n,fun b ob q _=>⟨ob,k b ob q⟩,fun _ _ q=>q,fun _ _ _ q=>q,fun _ ps q=>⟨#[],by rw [q];simp⟩⟩
theorem Un.refl:Un fs ex H H h h:=Un.kept fun _ _ q=>q
theorem Un.laid (k:∀b u,h.get? b=some u→h'.get? b=some u)(hp:h.objs.size≤a)(hn:H a=none):Un fs ex H (upd H a o) h h' where
 keep:=fun b u q _ _ _=>k b u q
 slot:=fun b u q _ _ _=>⟨u.slots,k b u q⟩
 free:=fun b u q n _=>by rw [zq (Nat.ne_of_lt (Nat.lt_of_lt_of_le (Heap.lt_size q) hp))];exact n
 there:=fun b u q _=>⟨u,k b u q⟩
 tups:=fun b xs q=>by rw [zq (zr q hn)];exact q
 frzs:=fun b u xs q=>by rw [zq (zr q hn)];exact q
 tbls:=fun b ps q=>⟨#[],by rw [zq (zr q hn),q];simp⟩
theorem Un.write (mu:Mut (H x))(he:e=x∨H e=some (.own x))(k:∀b u,b≠e→h.get? b=some u→h'.get? b=some u)(heo:∃u,h'.get? e=some u):Un fs ex H (upd H x o) h h':=by
 have hx:∀b,H b=none→b≠x:=fun b n z=>by subst z;rw [n] at mu;exact mu
 have hb:∀b,H b=none→b≠e:=fun b n z=>by
  subst z
  rcases he with r | r
  ·exact hx b n r
  ·rw [n] at r;cases r
 have hm:∀b u,H b=some u→¬Mut (some u)→b≠x:=fun b u q nm z=>by subst z;rw [q] at mu;exact nm mu
 refine ⟨fun b u q n _ _=>k b u (hb b n) q,fun b u q n _ _=>⟨u.slots,k b u (hb b n) q⟩,fun b u q n _=>by rw [zq (hx b n)];exact n,fun b u q _=>?_,
  fun b xs q=>by rw [zq (hm b _ q fun z=>z)];exact q,fun b u xs q=>by rw [zq (hm b _ q fun z=>z)];exact q,fun b ps q=>⟨#[],by rw [zq (hm b _ q fun z=>z),q];simp⟩⟩
 by_cases hbe:b=e
 ·subst hbe;exact heo
 ·exact ⟨u,k b u hbe q⟩
theorem Un.mono (u:Un fs ex H H1 h h1)(hs:∀b∈fs,b∈fs')(hx:∀b∈ex,b∈ex'):Un fs' ex' H H1 h h1:=
 ⟨fun b ob q n hb he=>u.keep b ob q n (fun z=>hb (hs b z)) fun z=>he (hx b z),fun _ _ q n _ he=>u.any q n fun z=>he (hx _ z),fun b ob q n he=>u.free b ob q n fun z=>he (hx b z),fun b ob q he=>u.there b ob q fun z=>he (hx b z),u.tups,u.frzs,u.tbls⟩
end
def trk (h:Heap)(H:Hp):List Addr:=(List.range h.objs.size).filter fun a=>(H a).isSome
def hidT (h:Heap)(H:Hp):Heap:=PySem.W.hideAll h (trk h H)
theorem zia (h:Heap)(H:Hp):(hidT h H).objs.size=h.objs.size:=PySem.W.hideAll_size _ _
theorem zjl {h:Heap}{H:Hp}{b:Addr}{o:Obj}(e:h.get? b=some o)(n:H b=none):(hidT h H).get? b=some o:=
 PySem.W.hideAll_get _ e fun hm=>by
  have q:(H b).isSome=true:=(List.mem_filter.mp hm).2
  rw [n] at q;simp at q
theorem zkC {h:Heap}{H:Hp}{b:Addr}{o:Obj}(e:(hidT h H).get? b=some o):h.get? b=some o∧H b=none:=by
 have e':h.get? b=some o:=PySem.W.of_hideAll (trk h H) e
 refine ⟨e',?_⟩
 cases q:H b with
 | none=>rfl
 | some x=>
  have hm:b∈trk h H:=List.mem_filter.mpr ⟨List.mem_range.mpr (Heap.lt_size e'),by simp [q]⟩
  have z:(hidT h H).get? b=none:=PySem.W.hideAll_none (trk h H) hm
  rw [z] at e;cases e
def zkr (g h:Heap)(L:Addr):List (Addr ×Obj):=(List.range h.objs.size).filterMap fun a=>if a=L∨(g.get? a).isSome=true then none else (h.get? a).map fun o=>(a,o)
def rest (g h:Heap)(L d:Addr):List (Addr ×Obj):=(zkr g h L).filter fun p=>decide (p.1≠d)
end L2
namespace L2
open PySem PySem.Spec PyProof.Rows
structure Mod (K:PySem.W.Frag)(mg:Str→Option Value)(base:Heap):Prop where
 kin:K.In base
 glob:base.Ns mainGlobals mg
 blt:∃mb,base.Ns builtinsNs mb∧∀x:Str,x≠ "__name__" →mb x=bootBuiltins x
 nolimit:base.NoLimit
structure Cx where
 prog:Program
 w:World
 K:PySem.W.Frag
 mg:Str→Option Value
 base:Heap
 A:Around
 N:List Str
 s₀:Shared
 H₀:Hp
 env:Env
 outer:List Env
 stack:List Env
 ex:List Addr
 fn:Str→Bool
 calm:Bool
 pn:List (Addr ×Obj)
 xe:Value→Shared→Prop
def frs (l:List Env):List Addr:=l.filterMap (·.frame)
abbrev Cx.fs (X:Cx):List Addr:=frs X.outer
def Vis (sc:Scope)(x:Str):Prop:=sc.names.lookup x=some .local∨sc.names.lookup x=some .cell∨sc.names.lookup x=some .free
def Loc (sc:Scope)(x:Str):Prop:=sc.names.lookup x=some .local∨sc.names.lookup x=some .cell
def Look (env:Env)(h:Heap)(m:Str→Option Value)(x:Str)(u:Value):Prop:=
 (env.kindOf x=some .local∧m x=some u)∨((env.kindOf x=some .cell∨env.kindOf x=some .free)∧∃c,env.cells.lookup x=some c∧h.IsCell c (some u))
structure Cx.Ok (X:Cx):Prop where
 mod:Mod X.K X.mg X.base
 kind:X.env.scope.kind=.function
 glob:X.env.globals=mainGlobals
 blt:X.env.builtins=builtinsNs
 above:X.s₀.heap.objs.size≤X.env.locals
 inj:∀x y c,X.env.cells.lookup x=some c→X.env.cells.lookup y=some c→x=y
 has:∀x,(X.env.kindOf x=some .cell∨X.env.kindOf x=some .free)→∃c,X.env.cells.lookup x=some c
 cab:∀x c,X.fn x=true→X.env.cells.lookup x=some c→X.s₀.heap.objs.size≤c
 hd:X.calm=true→X.A.handled=none
 frames:X.A.frames=some X.stack
 stk:X.stack=X.outer∨(X.stack=X.env::X.outer∧X.env.frame=some X.env.locals)
 exf:∀b∈X.ex,b≠X.env.locals∧∀x c,X.env.cells.lookup x=some c→c≠b
 bs:∀b o,X.base.get? b=some o→X.s₀.heap.get? b=some o∧X.H₀ b=none
 bsz:X.base.objs.size≤X.s₀.heap.objs.size
 noex:∀b o,X.base.get? b=some o→b∉X.ex
 exfs:∀b∈X.ex,b∉X.fs
 funs:X.s₀.heap.FunFrames X.base X.outer
 frf:∀b∈X.fs,X.H₀ b=none
structure Inv (X:Cx)(pins:List (Addr ×Obj))(σ:List (Option V))(H:Hp)(s:Shared):Prop where
 ok:X.Ok
 os:s.os=X.s₀.os
 bare:AllBare s.gens
 base:Un X.fs X.ex X.H₀ H X.s₀.heap s.heap
 loc:∃m,s.heap.Ns X.env.locals m∧∀(i:Nat) (x:Str) (v:V),X.N[i]? =some x→σ[i]? =some (some v)→Vis X.env.scope x→∃u,RelV v u∧Look X.env s.heap m x u
 cell:∀x c,X.env.cells.lookup x=some c→∃v,s.heap.IsCell c v
 free:H X.env.locals=none
 freeC:∀x c,X.env.cells.lookup x=some c→H c=none
 pin:∀p∈X.pn++pins,s.heap.get? p.1=some p.2∧H p.1=none∧p.1≠X.env.locals∧p.1∉X.fs∧∀v,p.2.data≠ .cell v
 hok:HOk X.prog X.w H s.heap
 len:σ.length=X.N.length
section
variable {X:Cx}{pins:List (Addr ×Obj)}{σ:List (Option V)}{H H':Hp}{s:Shared}{h':Heap}
theorem Cx.Ok.nofr (ok:X.Ok){b:Addr}{o:Obj}(e:X.base.get? b=some o):b∉X.fs:=fun hb=>by
 have:=(ok.funs.mem hb).1
 rw [e] at this;cases this
theorem Inv.bs (I:Inv X pins σ H s):∀b o,X.base.get? b=some o→s.heap.get? b=some o∧H b=none:=fun b o e=>
 ⟨I.base.keep b o (I.ok.bs b o e).1 (I.ok.bs b o e).2 (I.ok.nofr e) (I.ok.noex b o e),I.base.free b o (I.ok.bs b o e).1 (I.ok.bs b o e).2 (I.ok.noex b o e)⟩
theorem Inv.bk (I:Inv X pins σ H s):∀b o,X.base.get? b=some o→s.heap.get? b=some o:=fun b o e=>(I.bs b o e).1
theorem Inv.mod (I:Inv X pins σ H s):Mod X.K X.mg X.base:=I.ok.mod
theorem Inv.kIn (I:Inv X pins σ H s):X.K.In s.heap:=I.ok.mod.kin.keeps I.bk
theorem Inv.nolimit (I:Inv X pins σ H s):s.heap.NoLimit:=I.ok.mod.nolimit.keeps I.bk
theorem Inv.fr (I:Inv X pins σ H s):∃m,Fr X.base X.env.locals s.heap m:=
 let ⟨m,hn,_⟩:=I.loc
 ⟨m,hn,I.bk,Nat.le_trans I.ok.bsz I.ok.above⟩
theorem Inv.lt (I:Inv X pins σ H s):X.env.locals < s.heap.objs.size:=let ⟨_,hn,_⟩:=I.loc;hn.lt
theorem Inv.sz (I:Inv X pins σ H s):X.s₀.heap.objs.size≤s.heap.objs.size:=Nat.le_trans I.ok.above (Nat.le_of_lt I.lt)
theorem Inv.nofs (I:Inv X pins σ H s){a:Addr}(h:s.heap.objs.size≤a):a∉X.fs:=fun hb=>by
 obtain ⟨_,o,ho,_⟩:=I.ok.funs.mem hb
 exact absurd (Nat.lt_of_lt_of_le (Heap.lt_size ho) (Nat.le_trans I.sz h)) (Nat.lt_irrefl _)
theorem Inv.cne (I:Inv X pins σ H s):∀x c,X.env.cells.lookup x=some c→c≠X.env.locals:=fun x c e z=>by
 obtain ⟨v,o,ho,hd⟩:=I.cell x c e
 obtain ⟨m,⟨o',es,ep,ho',hd',_⟩,_⟩:=I.loc
 rw [z,ho'] at ho;cases ho;rw [hd'] at hd;cases hd
theorem Inv.funs (I:Inv X pins σ H s):s.heap.FunFrames X.base X.outer:=by
 have all:∀(l:List Env),(∀b∈frs l,b∈X.fs)→X.s₀.heap.FunFrames X.base l→s.heap.FunFrames X.base l:=by
  intro l
  induction l with
  | nil=>intro _ _;trivial
  | cons env r ih=>
   intro hs hl
   obtain ⟨hk,⟨L,o,hf,hn,ho,hd⟩,hr⟩:=hl
   have hL:L∈X.fs:=hs L (by unfold frs;rw [List.filterMap_cons,hf];exact List.mem_cons_self)
   obtain ⟨sl,e⟩:=I.base.slot L o ho (I.ok.frf L hL) hL fun z=>I.ok.exfs L z hL
   exact ⟨hk,⟨L,_,hf,hn,e,hd⟩,ih (fun b hb=>hs b (by unfold frs;rw [List.filterMap_cons,hf];exact List.mem_cons_of_mem _ hb)) hr⟩
 exact all X.outer (fun _ hb=>hb) I.ok.funs
theorem Inv.stack (I:Inv X pins σ H s):s.heap.FunFrames X.base X.stack:=by
 rcases I.ok.stk with e | ⟨e,hf⟩
 ·rw [e];exact I.funs
 ·rw [e]
  obtain ⟨m,hn,_⟩:=I.loc
  refine .cons (by rw [I.ok.kind];decide) hf hn ?_ I.funs
  exact Heap.get?_none_of_le (Nat.le_trans I.ok.bsz I.ok.above)
theorem Inv.stkSub (I:Inv X pins σ H s):∀b∈frs X.stack,b∈X.env.locals::X.fs:=fun b hb=>by
 rcases I.ok.stk with e | ⟨e,hf⟩
 ·rw [e] at hb;exact List.mem_cons_of_mem _ hb
 ·rw [e] at hb
  unfold frs at hb
  rw [List.filterMap_cons,hf] at hb
  exact hb
theorem Inv.stkFree (I:Inv X pins σ H s):∀b∈frs X.stack,H b=none:=fun b hb=>by
 rcases List.mem_cons.mp (I.stkSub b hb) with e | hb
 ·rw [e];exact I.free
 ·obtain ⟨_,o,ho,_⟩:=I.ok.funs.mem hb
  exact I.base.free b o ho (I.ok.frf b hb) fun z=>I.ok.exfs b z hb
theorem Inv.step {g':Array GenState}{t':Nat}{d':Drawn}{ch:List Addr}(I:Inv X pins σ H s)
  (hch:∀b∈ch,(b∈X.ex∨X.s₀.heap.objs.size≤b)∧b≠X.env.locals∧(∀x c,X.env.cells.lookup x=some c→c≠b)∧∀p∈X.pn++pins,p.1≠b)
  (keep:∀b o,b≠X.env.locals→b∉X.fs→b∉ch→s.heap.get? b=some o→H b=none→h'.get? b=some o)
  (slot:∀b o,b≠X.env.locals→b∈X.fs→b∉ch→s.heap.get? b=some o→H b=none→∃sl,h'.get? b=some {o with slots:=sl}) (free:∀b o,b∉ch→s.heap.get? b=some o→H b=none→H' b=none)
  (there:∀b o,b∉ch→s.heap.get? b=some o→∃o',h'.get? b=some o')
  (tups:∀b xs,H b=some (.tup xs)→H' b=some (.tup xs)) (frzs:∀b o u,H b=some (.frz o u)→H' b=some (.frz o u)) (tbls:∀b ps,H b=some (.tbl ps)→∃more,H' b=some (.tbl (ps++more)))
  (ns:∀m,s.heap.Ns X.env.locals m→h'.Ns X.env.locals m) (hok:HOk X.prog X.w H' h') (hg:AllBare g'):
  Inv X pins σ H' {s with heap:=h',gens:=g',drawn:=d',toks:=t'}:=by
 have neL:∀b o,X.s₀.heap.get? b=some o→b≠X.env.locals:=fun b o e=>Nat.ne_of_lt (Nat.lt_of_lt_of_le (Heap.lt_size e) I.ok.above)
 have neC:∀b o,X.s₀.heap.get? b=some o→b∉X.ex→b∉ch:=fun b o e hx hb=>by
  rcases (hch b hb).1 with z | z
  ·exact hx z
  ·exact absurd (Nat.lt_of_lt_of_le (Heap.lt_size e) z) (Nat.lt_irrefl _)
 have cellK:∀x c,X.env.cells.lookup x=some c→∀v,s.heap.IsCell c v→h'.IsCell c v:=fun x c e v ⟨o,ho,hd⟩=>by
  have nch:c∉ch:=fun z=>(hch c z).2.2.1 x c e rfl
  by_cases hc:c∈X.fs
  ·obtain ⟨sl,q⟩:=slot c o (I.cne x c e) hc nch ho (I.freeC x c e)
   exact ⟨_,q,hd⟩
  ·exact ⟨o,keep c o (I.cne x c e) hc nch ho (I.freeC x c e),hd⟩
 refine ⟨I.ok,I.os,hg,⟨fun b o e n hb hx=>?_,fun b o e n hb hx=>?_,fun b o e n hx=>?_,fun b o e hx=>?_,fun b xs e=>tups b xs (I.base.tups b xs e),fun b o xs e=>frzs b o xs (I.base.frzs b o xs e),fun b ps e=>?_⟩,?_,fun x c e=>?_,?_,fun x c e=>?_,fun p hp=>?_,hok,I.len⟩
 ·exact keep b o (neL b o e) hb (neC b o e hx) (I.base.keep b o e n hb hx) (I.base.free b o e n hx)
 ·obtain ⟨sl,e1⟩:=I.base.slot b o e n hb hx
  obtain ⟨sl',e2⟩:=slot b _ (neL b o e) hb (neC b o e hx) e1 (I.base.free b o e n hx)
  exact ⟨sl',e2⟩
 ·obtain ⟨o',e1⟩:=I.base.there b o e hx
  exact free b o' (neC b o e hx) e1 (I.base.free b o e n hx)
 ·obtain ⟨o',e1⟩:=I.base.there b o e hx
  exact there b o' (neC b o e hx) e1
 ·obtain ⟨m1,e1⟩:=I.base.tbls b ps e
  obtain ⟨m2,e2⟩:=tbls b _ e1
  exact ⟨m1++m2,by rw [e2,Array.append_assoc]⟩
 ·obtain ⟨m,hn,hl⟩:=I.loc
  refine ⟨m,ns m hn,fun i x v e1 e2 e3=>?_⟩
  obtain ⟨u,r,l⟩:=hl i x v e1 e2 e3
  refine ⟨u,r,?_⟩
  rcases l with l | ⟨k,c,e,z⟩
  ·exact .inl l
  ·exact .inr ⟨k,c,e,cellK x c e _ z⟩
 ·obtain ⟨v,z⟩:=I.cell x c e
  exact ⟨v,cellK x c e v z⟩
 ·obtain ⟨m,⟨o,_,_,ho,_⟩,_⟩:=I.loc
  exact free _ o (fun z=>(hch _ z).2.1 rfl) ho I.free
 ·obtain ⟨v,o,ho,hd⟩:=I.cell x c e
  exact free c o (fun z=>(hch c z).2.2.1 x c e rfl) ho (I.freeC x c e)
 ·obtain ⟨e,n,ne,nf,d⟩:=I.pin p hp
  have nch:p.1∉ch:=fun z=>(hch p.1 z).2.2.2 p hp rfl
  exact ⟨keep p.1 p.2 ne nf nch e n,free p.1 p.2 nch e n,ne,nf,d⟩
theorem Inv.un {t':Nat}(I:Inv X pins σ H s)(u:Un X.fs [] H H' s.heap h')(hok:HOk X.prog X.w H' h'):Inv X pins σ H' {s with heap:=h',toks:=t'}:=by
 obtain ⟨m,⟨o,es,ep,ho,r⟩,_⟩:=id I.loc
 obtain ⟨sl,hL⟩:=u.any ho I.free (by simp)
 exact I.step (g':=s.gens) (d':=s.drawn) (ch:=[]) (fun _ z=>nomatch z) (fun b o _ hb _ e n=>u.keep b o e n hb (by simp)) (fun b o _ hb _ e n=>u.slot b o e n hb (by simp)) (fun b o _ e n=>u.free b o e n (by simp)) (fun b o _ e=>u.there b o e (by simp)) u.tups u.frzs u.tbls (fun m' hm=>by
  obtain ⟨o',es',ep',ho',r'⟩:=hm
  rw [ho] at ho';cases ho'
  exact ⟨_,es',ep',hL,r'⟩) hok I.bare
theorem Inv.call {g':Array GenState}{t':Nat}{d':Drawn}{ch:List Addr}(I:Inv X pins σ H s)(u:Un (frs X.stack) ch H H' s.heap h')(hok:HOk X.prog X.w H' h')(hg:AllBare g')
  (hch:∀b∈ch,(b∈X.ex∨X.s₀.heap.objs.size≤b)∧b≠X.env.locals∧(∀x c,X.env.cells.lookup x=some c→c≠b)∧∀p∈X.pn++pins,p.1≠b):
  Inv X pins σ H' {s with heap:=h',gens:=g',drawn:=d',toks:=t'}:=by
 obtain ⟨m,⟨o,es,ep,ho,r⟩,_⟩:=id I.loc
 obtain ⟨sl,hL⟩:=u.any ho I.free fun z=>(hch _ z).2.1 rfl
 exact I.step (ch:=ch) hch (fun b o hL hb hc e n=>u.keep b o e n (fun z=>(List.mem_cons.mp (I.stkSub b z)).elim hL hb) hc) (fun b o _ _ hc e n=>u.any e n hc) (fun b o hc e n=>u.free b o e n hc) (fun b o hc e=>u.there b o e hc) u.tups u.frzs u.tbls (fun m' hm=>by
  obtain ⟨o',es',ep',ho',r'⟩:=hm
  rw [ho] at ho';cases ho'
  exact ⟨_,es',ep',hL,r'⟩) hok hg
theorem Inv.turned {t':Nat}{it:Addr}(I:Inv X pins σ H s)(k:∀b o,b≠it→s.heap.get? b=some o→h'.get? b=some o)(hn:H it=none)(hL:it≠X.env.locals)
  (h1:it∈X.ex∨X.s₀.heap.objs.size≤it) (h2:∀x c,X.env.cells.lookup x=some c→c≠it) (h3:∀p∈X.pn++pins,p.1≠it):Inv X pins σ H {s with heap:=h',toks:=t'}:=by
 have nit:∀b u,H b=some u→b≠it:=fun b u e z=>by rw [z,hn] at e;cases e
 refine I.step (g':=s.gens) (d':=s.drawn) (ch:=[it]) (fun b hb=>?_) (fun b o _ _ hc e _=>k b o (fun z=>hc (by simp [z])) e) (fun b o _ _ hc e _=>⟨o.slots,k b o (fun z=>hc (by simp [z])) e⟩) (fun _ _ _ _ n=>n)
  (fun b o hc e=>⟨o,k b o (fun z=>hc (by simp [z])) e⟩) (fun _ _ e=>e) (fun _ _ _ e=>e) (fun b ps e=>⟨#[],by rw [e];simp⟩) (fun m hm=>?_) (fun b u e=>?_) I.bare
 ·have e:b=it:=by simpa using hb
  subst e
  exact ⟨h1,hL,h2,h3⟩
 ·obtain ⟨o,es,ep,ho,r⟩:=hm
  exact ⟨o,es,ep,k _ o (Ne.symm hL) ho,r⟩
 ·refine (I.hok b u e).stay (fun c v hc q=>k c v ?_ q) (fun _ q=>q) fun _ _ q=>q
  rcases hc with z | z
  ·rw [z];exact nit b u e
  ·exact nit c _ z
theorem Inv.tok (I:Inv X pins σ H s)(t:Nat):Inv X pins σ H {s with toks:=t}:=I.un (h':=s.heap) (t':=t) Un.refl I.hok
theorem Inv.kept {t':Nat}(I:Inv X pins σ H s)(k:∀b u,s.heap.get? b=some u→h'.get? b=some u):Inv X pins σ H {s with heap:=h',toks:=t'}:=I.un (Un.kept k) (I.hok.kept k)
theorem Inv.laid {a:Addr}{o:HO}{t':Nat}(I:Inv X pins σ H s)(k:∀b u,s.heap.get? b=some u→h'.get? b=some u)(hp:s.heap.objs.size≤a)(new:z6 X.prog X.w (upd H a o) h' a o):
  Inv X pins σ (upd H a o) {s with heap:=h',toks:=t'}:=I.un (Un.laid k hp (I.hok.fresh hp)) (I.hok.laid k hp new)
theorem Inv.write {x e:Addr}{o:HO}{t':Nat}(I:Inv X pins σ H s)(mu:Mut (H x))(he:e=x∨H e=some (.own x))(k:∀b u,b≠e→s.heap.get? b=some u→h'.get? b=some u)(heo:∃u,h'.get? e=some u)
  (new:z6 X.prog X.w (upd H x o) h' x o):Inv X pins σ (upd H x o) {s with heap:=h',toks:=t'}:=I.un (Un.write mu he k heo) (I.hok.write mu he k heo new)
theorem Inv.pins_of {pins':List (Addr ×Obj)}(I:Inv X pins σ H s)(h:∀p∈pins',s.heap.get? p.1=some p.2∧H p.1=none∧p.1≠X.env.locals∧p.1∉X.fs∧∀v,p.2.data≠ .cell v):Inv X pins' σ H s:=
 ⟨I.ok,I.os,I.bare,I.base,I.loc,I.cell,I.free,I.freeC,fun p hp=>(List.mem_append.mp hp).elim (fun z=>I.pin p (List.mem_append_left _ z)) (h p),I.hok,I.len⟩
theorem zep {N:List Str}(hN:N.Nodup){i j:Nat}{x:Str}(a:N[i]? =some x)(b:N[j]? =some x):i=j:=by
 obtain ⟨h1,e1⟩:=List.getElem?_eq_some_iff.mp a
 obtain ⟨h2,e2⟩:=List.getElem?_eq_some_iff.mp b
 exact (List.getElem_inj hN).mp (e1.trans e2.symm)
theorem zhQ {M:Model}{A:Around}{E:Value→Shared→Prop}{i:Nat}{x:Str}{v:V}{u:Value}{Q:Unit→Shared→Prop}(I:Inv X pins σ H s)(hN:X.N.Nodup)(hi:X.N[i]? =some x)(hx:Loc X.env.scope x)(r:RelV v u)
  (h:∀s',Inv X pins (σ.set i (some v)) H s'→(∃a,Heap.SameBut a s.heap s'.heap∧(a=X.env.locals∨X.env.cells.lookup x=some a))→Q () s') (hf:X.fn x=true∨X.env.scope.names.lookup x=some .local:=by first | exact .inl rfl | exact .inr rfl | assumption):wpAny M A (storeName X.env x u) Q E s:=by
 obtain ⟨m,hn,hl⟩:=id I.loc
 have hcls:(X.env.scope.kind==.class || (X.env.scope.kind==.module && X.env.locals !=X.env.globals))=false:=by rw [I.ok.kind];rfl
 have hiσ:i < σ.length:=by rw [I.len];exact (List.getElem?_eq_some_iff.mp hi).1
 have cne:=I.cne
 have tracked:∀{a:Addr} {h':Heap},(∃o,s.heap.get? a=some o∧H a=none)→Heap.SameBut a s.heap h'→HOk X.prog X.w H h':=fun {a h'} ha hs b ob e=>by
  obtain ⟨_,_,hfree⟩:=ha
  refine (I.hok b ob e).stay (fun c w' hc q=>(hs.2 c ?_).trans q) (fun _ q=>q) fun _ _ q=>q
  rintro rfl
  rcases hc with rfl | hc
  ·rw [hfree] at e;cases e
  ·rw [hfree] at hc;cases hc
 rcases hx with hk | hk
 ·refine wpAny_storeName_local hk hn (fun h' hn' hs=>?_) hcls
  obtain ⟨oL,_,_,hoL,_⟩:=id hn
  refine h _ ⟨I.ok,I.os,I.bare,⟨fun b o e n hb hx=>?_,fun b o e n hb hx=>?_,I.base.free,fun b o e hx=>?_,I.base.tups,I.base.frzs,I.base.tbls⟩,⟨_,hn',fun j y v' e1 e2 e3=>?_⟩,fun y c e=>?_,I.free,I.freeC,fun p hp=>?_,tracked ⟨oL,hoL,I.free⟩ hs,by simpa using I.len⟩ ⟨_,hs,.inl rfl⟩
  ·exact (hs.2 b (Nat.ne_of_lt (Nat.lt_of_lt_of_le (Heap.lt_size e) I.ok.above))).trans (I.base.keep b o e n hb hx)
  ·obtain ⟨sl,e1⟩:=I.base.slot b o e n hb hx
   exact ⟨sl,(hs.2 b (Nat.ne_of_lt (Nat.lt_of_lt_of_le (Heap.lt_size e) I.ok.above))).trans e1⟩
  ·obtain ⟨o',e1⟩:=I.base.there b o e hx
   exact ⟨o',(hs.2 b (Nat.ne_of_lt (Nat.lt_of_lt_of_le (Heap.lt_size e) I.ok.above))).trans e1⟩
  ·by_cases hj:j=i
   ·subst hj
    rw [hi] at e1;cases e1
    rw [List.getElem?_set_self hiσ] at e2
    cases e2
    exact ⟨u,r,.inl ⟨hk,by simp⟩⟩
   ·rw [List.getElem?_set_ne (Ne.symm hj)] at e2
    obtain ⟨u',r',q⟩:=hl j y v' e1 e2 e3
    refine ⟨u',r',?_⟩
    rcases q with ⟨k,e⟩ | ⟨k,c,e,z⟩
    ·refine .inl ⟨k,?_⟩
     have:y≠x:=fun e=>hj (zep hN e1 (e ▸ hi))
     simp [this,e]
    ·exact .inr ⟨k,c,e,z.sameBut hs (cne y c e)⟩
  ·obtain ⟨w',z⟩:=I.cell y c e
   exact ⟨w',z.sameBut hs (cne y c e)⟩
  ·obtain ⟨e,n,ne,nf,d⟩:=I.pin p hp
   exact ⟨(hs.2 p.1 ne).trans e,n,ne,nf,d⟩
 ·have hfn:X.fn x=true:=by
   rcases hf with z | z
   ·exact z
   ·rw [z] at hk;cases hk
  obtain ⟨c,hc⟩:=I.ok.has x (.inl hk)
  obtain ⟨w',z⟩:=I.cell x c hc
  refine wpAny_storeName_cell I.ok.kind hk hc z (fun h' hc' hs=>?_)
  obtain ⟨oc,hoc,hocd⟩:=id z
  refine h {s with heap:=h'} ⟨I.ok,I.os,I.bare,⟨fun b o e n hb hx=>?_,fun b o e n hb hx=>?_,I.base.free,fun b o e hx=>?_,I.base.tups,I.base.frzs,I.base.tbls⟩,⟨m,hn.sameBut hs (Ne.symm (cne x c hc)),fun j y v' e1 e2 e3=>?_⟩,fun y c' e=>?_,I.free,I.freeC,fun p hp=>?_,tracked ⟨oc,hoc,I.freeC x c hc⟩ hs,by simpa using I.len⟩ ⟨c,hs,.inr hc⟩
  ·exact (hs.2 b (Nat.ne_of_lt (Nat.lt_of_lt_of_le (Heap.lt_size e) (I.ok.cab x c hfn hc)))).trans (I.base.keep b o e n hb hx)
  ·obtain ⟨sl,e1⟩:=I.base.slot b o e n hb hx
   exact ⟨sl,(hs.2 b (Nat.ne_of_lt (Nat.lt_of_lt_of_le (Heap.lt_size e) (I.ok.cab x c hfn hc)))).trans e1⟩
  ·obtain ⟨o',e1⟩:=I.base.there b o e hx
   exact ⟨o',(hs.2 b (Nat.ne_of_lt (Nat.lt_of_lt_of_le (Heap.lt_size e) (I.ok.cab x c hfn hc)))).trans e1⟩
  ·by_cases hj:j=i
   ·subst hj
    rw [hi] at e1;cases e1
    rw [List.getElem?_set_self hiσ] at e2
    cases e2
    exact ⟨u,r,.inr ⟨.inl hk,c,hc,hc'⟩⟩
   ·rw [List.getElem?_set_ne (Ne.symm hj)] at e2
    obtain ⟨u',r',q⟩:=hl j y v' e1 e2 e3
    refine ⟨u',r',?_⟩
    rcases q with q | ⟨k,c',e,z'⟩
    ·exact .inl q
    ·refine .inr ⟨k,c',e,z'.sameBut hs ?_⟩
     rintro rfl
     exact hj (zep hN e1 (I.ok.inj _ _ _ e hc ▸ hi))
  ·by_cases hcc:c'=c
   ·subst hcc;exact ⟨_,hc'⟩
   ·obtain ⟨w2,z2⟩:=I.cell y c' e
    exact ⟨w2,z2.sameBut hs hcc⟩
  ·obtain ⟨e,n,ne,nf,d⟩:=I.pin p hp
   refine ⟨(hs.2 p.1 ?_).trans e,n,ne,nf,d⟩
   intro q
   rw [q,hoc] at e
   have q':oc=p.2:=Option.some.inj e
   exact d w' (by rw [←q'];exact hocd)
theorem zcy {M:Model}{A:Around}{E:Value→Shared→Prop}{i:Nat}{x:Str}{v:V}{u:Value}{Q:Unit→Shared→Prop}(I:Inv X pins σ H s)(hN:X.N.Nodup)(hi:X.N[i]? =some x)(hx:Loc X.env.scope x)(r:RelV v u)
  (h:∀s',Inv X pins (σ.set i (some v)) H s'→Q () s') (hf:X.fn x=true∨X.env.scope.names.lookup x=some .local:=by first | exact .inl rfl | exact .inr rfl | assumption):wpAny M A (storeName X.env x u) Q E s:=
 zhQ I hN hi hx r (fun s' I' _=>h s' I') hf
theorem Inv.call' {s':Shared}{ch:List Addr}(I:Inv X pins σ H s)(ho:s'.os=s.os)(u:Un (frs X.stack) ch H H' s.heap s'.heap)(hok:HOk X.prog X.w H' s'.heap)(hg:AllBare s'.gens)
  (hch:∀b∈ch,(b∈X.ex∨X.s₀.heap.objs.size≤b)∧b≠X.env.locals∧(∀x c,X.env.cells.lookup x=some c→c≠b)∧∀p∈X.pn++pins,p.1≠b):Inv X pins σ H' s':=by
 obtain ⟨h',g',d',t',o'⟩:=s'
 have e:o'=s.os:=ho
 subst e
 exact I.call (g':=g') (t':=t') (d':=d') u hok hg hch
end
abbrev XK:=Value→Option Addr→Hp→Prop
abbrev St:=List (Option V)
abbrev VK:=V→Hp→Prop
abbrev TE:=St→Hp→VK→Prop
abbrev TT:=St→Hp→(Bool→Hp→Prop)→Prop
abbrev TA:=St→Hp→(List V→Hp→Prop)→Prop
structure Ends where
 nx:St→Hp→Prop
 rt:VK
 bk:St→Hp→Prop:=fun _ _=>False
 ct:St→Hp→Prop:=fun _ _=>False
abbrev TS:=Ends→St→Hp→Prop
def EP (X:Cx)(pins:List (Addr ×Obj))(σ:St)(Q:VK)(u:Value)(s':Shared):Prop:=∃v H',Inv X pins σ H' s'∧RelV v u∧Q v H'
def TP (X:Cx)(pins:List (Addr ×Obj))(σ:St)(Q:Bool→Hp→Prop)(b:Bool)(s':Shared):Prop:=∃H',Inv X pins σ H' s'∧Q b H'
def AP (X:Cx)(pins:List (Addr ×Obj))(σ:St)(Q:List V→Hp→Prop)(us:List Value)(s':Shared):Prop:=∃vs H',Inv X pins σ H' s'∧Vals vs us∧Q vs H'
def SP (X:Cx)(pins:List (Addr ×Obj))(D:Ends)(f:Flow)(s':Shared):Prop:=
 match f with
 | .next=>∃σ' H',Inv X pins σ' H' s'∧D.nx σ' H'
 | .brk=>∃σ' H',Inv X pins σ' H' s'∧D.bk σ' H'
 | .cont=>∃σ' H',Inv X pins σ' H' s'∧D.ct σ' H'
 | .ret u=>∃v σ' H',Inv X pins σ' H' s'∧RelV v u∧D.rt v H'
def PE (X:Cx)(e:Expr)(t:TE):Prop:=
 ∀(pins:List (Addr ×Obj)) (s:Shared) (σ:St) (H:Hp) (Q:VK),Inv X pins σ H s→t σ H Q→wpAny (model X.prog X.w) X.A (eval e X.env) (EP X pins σ Q) X.xe s
def PT (X:Cx)(e:Expr)(t:TT):Prop:=
 ∀(pins:List (Addr ×Obj)) (s:Shared) (σ:St) (H:Hp) (Q:Bool→Hp→Prop),Inv X pins σ H s→t σ H Q→wpAny (model X.prog X.w) X.A (isTrue e X.env (eval e X.env)) (TP X pins σ Q) X.xe s
def PW (X:Cx)(e:Expr)(t:TT):Prop:=
 ∀(whole:Sem Value) (pins:List (Addr ×Obj)) (s:Shared) (σ:St) (H:Hp) (Q:Bool→Hp→Prop),Inv X pins σ H s→t σ H Q→wpAny (model X.prog X.w) X.A (isTrue e X.env whole) (TP X pins σ Q) X.xe s
theorem PW.pt {X:Cx}{e:Expr}{t:TT}(h:PW X e t):PT X e t:=h _
def PA (X:Cx)(es:List Expr)(t:TA):Prop:=
 ∀(pos:Pos) (pins:List (Addr ×Obj)) (s:Shared) (σ:St) (H:Hp) (Q:List V→Hp→Prop),Inv X pins σ H s→t σ H Q→wpAny (model X.prog X.w) X.A (spliced (backTo pos (starEach es X.env))) (AP X pins σ Q) X.xe s
def PS (X:Cx)(st:Stmt)(t:TS):Prop:=
 ∀(pins:List (Addr ×Obj)) (s:Shared) (σ:St) (H:Hp) (D:Ends),Inv X pins σ H s→t D σ H→wpAny (model X.prog X.w) X.A (exec st X.env) (SP X pins D) X.xe s
def PSs (X:Cx)(st:List Stmt)(t:TS):Prop:=
 ∀(pins:List (Addr ×Obj)) (s:Shared) (σ:St) (H:Hp) (D:Ends),Inv X pins σ H s→t D σ H→wpAny (model X.prog X.w) X.A (execs st X.env) (SP X pins D) X.xe s
theorem thn {α:Type}{t:Sem α}{Q Q':α→Shared→Prop}{M:Model}{A:Around}{E:Value→Shared→Prop}{s:Shared}(h:wpAny M A t Q E s)(hQ:∀a s,Q a s→Q' a s):wpAny M A t Q' E s:=wpAny_mono h hQ fun _ _ x=>x
end L2
namespace L2
open PySem PySem.Spec PyProof.Rows
section
variable {X:Cx}
theorem bin {a b:Expr}{ta tb:TE}(ha:PE X a ta)(hb:PE X b tb){pins:List (Addr ×Obj)}{s:Shared}{σ:St}{H:Hp}{R:V→V→Hp→Prop}(I:Inv X pins σ H s)(h:ta σ H fun x H1=>tb σ H1 fun y H2=>R x y H2)
  {α:Type} {Q:α→Shared→Prop} {f:Value→Value→Sem α}
  (hf:∀v u s2 x y H2,Inv X pins σ H2 s2→RelV x v→RelV y u→R x y H2→wpAny (model X.prog X.w) X.A (f v u) Q X.xe s2):
  wpAny (model X.prog X.w) X.A (eval a X.env) (fun v s₁=>wpAny (model X.prog X.w) X.A (eval b X.env) (fun u s₂=>wpAny (model X.prog X.w) X.A (f v u) Q X.xe s₂) X.xe s₁) X.xe s:=by
 refine thn (ha pins s σ H _ I h) fun v s1 ⟨x,H1,I1,r1,q1⟩=>?_
 refine thn (hb pins s1 σ H1 _ I1 q1) fun u s2 ⟨y,H2,I2,r2,q2⟩=>?_
 exact hf v u s2 x y H2 I2 r1 r2 q2
def tVar (i:Nat):TE:=fun σ H Q=>∃v,σ[i]? =some (some v)∧Q v H
def tC (v:V):TE:=fun _ H Q=>Q v H
theorem zlF {i:Nat}{x:Str}{pos:Pos}(hN:X.N[i]? =some x)(hv:Vis X.env.scope x)(hd:(x==("__debug__" :Str))=false:=by decide) (hcd:(x==("__classdict__" :Str))=false:=by decide):PE X (.Name x pos) (tVar i):=by
 intro pins s σ H Q I h
 obtain ⟨v,e,h⟩:=h
 obtain ⟨m,hn,hl⟩:=I.loc
 obtain ⟨u,r,l⟩:=hl i x v hN e hv
 have fin:EP X pins σ Q u s:=⟨v,H,I,r,h⟩
 rcases l with ⟨hk,hm⟩ | ⟨hk,c,hc,hcell⟩
 ·exact wpAny_Name (wpAny_loadName_local I.ok.kind hk hn hm fin) hd
 ·rcases hk with hk | hk
  ·exact wpAny_Name (wpAny_loadName_cell I.ok.kind hk hc hcell fin) hd
  ·exact wpAny_Name (wpAny_loadName_free I.ok.kind hk hc hcell fin hcd) hd
theorem zb {i j pos}:PE X (.Constant (.int i) j pos) (tC (.int i)):=fun _ _ _ H _ I h=>wpAny_Constant_int ⟨.int i,H,I.tok _,⟨_,rfl⟩,h⟩
theorem zaM {b j pos}:PE X (.Constant (.bool b) j pos) (tC (.bl b)):=fun _ _ _ H _ I h=>Constant_bool ⟨.bl b,H,I,rfl,h⟩
theorem zP {j pos}:PE X (.Constant .none j pos) (tC .non):=fun _ _ _ H _ I h=>Constant_none ⟨.non,H,I,rfl,h⟩
theorem zah {x j pos}:PE X (.Constant (.str x) j pos) (tC (.str x)):=fun _ _ _ H _ I h=>Calls.Constant_str ⟨.str x,H,I.tok _,⟨_,rfl⟩,h⟩
def Gl (X:Cx)(x:Str):Prop:=X.env.kindOf x=some .globalImplicit
theorem zcl {E:Value→Shared→Prop}{pins:List (Addr ×Obj)}{s:Shared}{σ:St}{H:Hp}{x:Str}{u:Value}{pos:Pos}{Q:Value→Shared→Prop}(I:Inv X pins σ H s)(hg:Gl X x)(hm:X.mg x=some u)(h:Q u s)
  (hd:(x==("__debug__" :Str))=false:=by decide):wpAny (model X.prog X.w) X.A (eval (.Name x pos) X.env) Q E s:=
 Calls.Name_function_global I.ok.kind hg (Calls.loadGlobal_global (by rw [I.ok.glob];exact I.mod.glob.keeps I.bk) hm h) hd
theorem zc2 {E:Value→Shared→Prop}{pins:List (Addr ×Obj)}{s:Shared}{σ:St}{H:Hp}{x:Str}{u:Value}{pos:Pos}{Q:Value→Shared→Prop}(I:Inv X pins σ H s)(hg:Gl X x)(hm:X.mg x=none)(hv:bootBuiltins x=some u)(h:Q u s)
  (hn:x≠ "__name__" :=by decide) (hd:(x==("__debug__" :Str))=false:=by decide):wpAny (model X.prog X.w) X.A (eval (.Name x pos) X.env) Q E s:=by
 obtain ⟨mb,h1,h2⟩:=I.mod.blt
 exact Calls.Name_function_global I.ok.kind hg (Calls.loadGlobal_builtin (by rw [I.ok.glob];exact I.mod.glob.keeps I.bk) hm (by rw [I.ok.blt];exact h1.keeps I.bk) ((h2 x hn).trans hv) h) hd
theorem zx {x:Str}{v:V}{u:Value}{pos:Pos}(hg:Gl X x)(hm:X.mg x=some u)(r:RelV v u)(hd:(x==("__debug__" :Str))=false:=by decide):PE X (.Name x pos) (tC v):=
 fun _ _ _ H _ I h=>zcl I hg hm ⟨v,H,I,r,h⟩ hd
theorem zaD {x:Str}{v:V}{u:Value}{pos:Pos}(hg:Gl X x)(hm:X.mg x=none)(hv:bootBuiltins x=some u)(r:RelV v u)(hn:x≠ "__name__" :=by decide) (hd:(x==("__debug__" :Str))=false:=by decide):PE X (.Name x pos) (tC v):=
 fun _ _ _ H _ I h=>zc2 I hg hm hv ⟨v,H,I,r,h⟩ hn hd
def t2I (ta tb:TE)(k:Int→Int→Hp→Prop):St→Hp→Prop:=fun σ H=>ta σ H fun x H1=>tb σ H1 fun y H2=>∃i j,x=.int i∧y=.int j∧k i j H2
def tAdd (ta tb:TE):TE:=fun σ H Q=>t2I ta tb (fun i j H2=>Q (.int (i+j)) H2) σ H
def tSub (ta tb:TE):TE:=fun σ H Q=>t2I ta tb (fun i j H2=>Q (.int (i - j)) H2) σ H
def tMul (ta tb:TE):TE:=fun σ H Q=>t2I ta tb (fun i j H2=>(-(2 ^ 64) < i∧i < 2 ^ 64)∧Q (.int (i * j)) H2) σ H
variable {a b:Expr}{ta tb:TE}{pos:Pos}
def PC (X:Cx)(op:CmpOp)(a b:Expr)(t:TE):Prop:=
 ∀(pins:List (Addr ×Obj)) (s:Shared) (σ:St) (H:Hp) (Q:VK),Inv X pins σ H s→t σ H Q→
  wpAny (model X.prog X.w) X.A (eval a X.env) (fun v s₁=>wpAny (model X.prog X.w) X.A (eval b X.env) (fun u s₂=>wpAny (model X.prog X.w) X.A (compareOp op v u) (EP X pins σ Q) X.xe s₂) X.xe s₁) X.xe s
theorem zir (b:Expr){op:CmpOp}(h:op≠ .In)(h2:op≠ .NotIn):behindInMarks op b=false:=by
 have e1:(op==CmpOp.In)=false:=by cases op <;> first | rfl | exact absurd rfl h
 have e2:(op==CmpOp.NotIn)=false:=by cases op <;> first | rfl | exact absurd rfl h2
 cases b <;> simp [behindInMarks,e1,e2]
def tCmp (p:Int→Int→Bool)(ta tb:TE):TE:=fun σ H Q=>t2I ta tb (fun i j H2=>Q (.bl (p i j)) H2) σ H
abbrev tLt:TE→TE→TE:=tCmp fun i j=>decide (i < j)
abbrev tLe:TE→TE→TE:=tCmp fun i j=>decide (i≤j)
abbrev tGt:TE→TE→TE:=tCmp fun i j=>decide (j < i)
abbrev tGe:TE→TE→TE:=tCmp fun i j=>decide (j≤i)
abbrev tEqI:TE→TE→TE:=tCmp fun i j=>decide (i=j)
abbrev tNeI:TE→TE→TE:=tCmp fun i j=>!decide (i=j)
def tIsN (ta:TE):TE:=fun σ H Q=>ta σ H fun x H1=>Q (.bl (decide (x=.non))) H1
def znt (ta:TE):TE:=fun σ H Q=>ta σ H fun x H1=>Q (.bl (!decide (x=.non))) H1
def tB (t:TE):TT:=fun σ H Q=>t σ H fun x H1=>∃c,x=.bl c∧Q c H1
theorem zi2 {op:CmpOp}{t:TE}(h:PC X op a b t)(h1:behindInMarks op b=false:=by first | exact zir _ (by decide) (by decide) | rfl):PT X (.Compare a [op] [b] pos) (tB t):=by
 intro pins s σ H Q I hw
 refine wpAny_isTrue_Compare1 (thn (h pins s σ H _ I hw) fun v s1 h1=>thn h1 fun u s2 h2=>thn h2 fun c s3 ⟨x,H1,I1,r1,q1⟩=>?_) h1
 obtain ⟨d,rfl,q⟩:=q1
 cases r1
 exact wpAny_truthy_bool ⟨H1,I1,q⟩
theorem zS {e:Expr}{t:TE}(h:PE X e t)(he:∀whole,isTrue e X.env whole=(do let v←whole;standAt e.pos;holding [v] (truthy v)):=by intro _;rfl):PT X e (tB t):=by
 intro pins s σ H Q I hw
 refine isTrue_plain (thn (h pins s σ H _ I hw) fun v s1 ⟨x,H1,I1,r1,q1⟩=>?_) (he _)
 obtain ⟨d,rfl,q⟩:=q1
 cases r1
 exact wpAny_truthy_bool ⟨H1,I1,q⟩
variable {tA tB':TT}{rest:List Expr}
def tAnd (t u:TT):TT:=fun σ H Q=>t σ H fun c H1=>if c=true then u σ H1 Q else Q false H1
def tOr (t u:TT):TT:=fun σ H Q=>t σ H fun c H1=>if c=true then Q true H1 else u σ H1 Q
def tNot (t:TT):TT:=fun σ H Q=>t σ H fun c H1=>Q (!c) H1
theorem zd1 (ha:PT X a tA):PW X (.BoolOp .And [a] pos) tA:=by
 intro wh pins s σ H Q I h
 refine isTrue_and (thn (ha pins s σ H Q I h) fun c s1 e=>?_)
 cases c with
 | true=>exact isTrue_and_nil e
 | false=>exact e
theorem zbx (ha:PT X a tA):PW X (.BoolOp .Or [a] pos) tA:=by
 intro wh pins s σ H Q I h
 refine isTrue_or (thn (ha pins s σ H Q I h) fun c s1 e=>?_)
 cases c with
 | false=>exact isTrue_or_nil e
 | true=>exact e
theorem zfg (ha:PT X a tA)(hb:PW X (.BoolOp .And (b::rest) pos) tB'):PW X (.BoolOp .And (a::b::rest) pos) (tAnd tA tB'):=by
 intro wh pins s σ H Q I h
 refine isTrue_and (thn (ha pins s σ H _ I h) fun c s1 ⟨H1,I1,q1⟩=>?_)
 cases c with
 | true=>exact hb wh pins s1 σ H1 Q I1 q1
 | false=>exact ⟨H1,I1,q1⟩
theorem zbS (ha:PT X a tA)(hb:PW X (.BoolOp .Or (b::rest) pos) tB'):PW X (.BoolOp .Or (a::b::rest) pos) (tOr tA tB'):=by
 intro wh pins s σ H Q I h
 refine isTrue_or (thn (ha pins s σ H _ I h) fun c s1 ⟨H1,I1,q1⟩=>?_)
 cases c with
 | true=>exact ⟨H1,I1,q1⟩
 | false=>exact hb wh pins s1 σ H1 Q I1 q1
theorem zbs (ha:PT X a tA):PT X (.UnaryOp .Not a pos) (tNot tA):=by
 intro pins s σ H Q I h
 exact isTrue_not (ha pins s σ H (fun c H1=>Q (!c) H1) I h)
def zmp (ta tb:TE):TE:=fun σ H Q=>ta σ H fun x H1=>∃c,x=.bl c∧if c=true then tb σ H1 Q else Q (.bl false) H1
def tOrV (ta tb:TE):TE:=fun σ H Q=>ta σ H fun x H1=>∃c,x=.bl c∧if c=true then Q (.bl true) H1 else tb σ H1 Q
def zmm (ta:TE):TE:=fun σ H Q=>ta σ H fun x H1=>∃c,x=.bl c∧Q (.bl (!c)) H1
theorem zba {op}{t:TE}(h:PE X a t):PE X (.BoolOp op [a] pos) t:=fun pins s σ H Q I hw=>BoolOp_one (h pins s σ H Q I hw)
theorem zbl (ha:PE X a ta)(hb:PE X (.BoolOp .And (b::rest) pos) tb):PE X (.BoolOp .And (a::b::rest) pos) (zmp ta tb):=by
 intro pins s σ H Q I h
 refine BoolOp_and (thn (ha pins s σ H _ I h) fun v s1 ⟨x,H1,I1,r1,q1⟩=>?_)
 obtain ⟨c,rfl,q1⟩:=q1
 cases r1
 refine wpAny_truthy_bool ?_
 cases c with
 | true=>exact hb pins s1 σ H1 Q I1 q1
 | false=>exact ⟨.bl false,H1,I1,rfl,q1⟩
theorem zk2 (ha:PE X a ta)(hb:PE X (.BoolOp .Or (b::rest) pos) tb):PE X (.BoolOp .Or (a::b::rest) pos) (tOrV ta tb):=by
 intro pins s σ H Q I h
 refine BoolOp_or (thn (ha pins s σ H _ I h) fun v s1 ⟨x,H1,I1,r1,q1⟩=>?_)
 obtain ⟨c,rfl,q1⟩:=q1
 cases r1
 refine wpAny_truthy_bool ?_
 cases c with
 | false=>exact hb pins s1 σ H1 Q I1 q1
 | true=>exact ⟨.bl true,H1,I1,rfl,q1⟩
theorem zgq (ha:PE X a ta):PE X (.UnaryOp .Not a pos) (zmm ta):=by
 intro pins s σ H Q I h
 refine UnaryOp_ (thn (ha pins s σ H _ I h) fun v s1 ⟨x,H1,I1,r1,q1⟩=>?_)
 obtain ⟨c,rfl,q1⟩:=q1
 cases r1
 exact not_of (wpAny_truthy_bool ⟨.bl (!c),H1,I1,rfl,q1⟩)
def tIf (t:TT)(ta tb:TE):TE:=fun σ H Q=>t σ H fun c H1=>if c=true then ta σ H1 Q else tb σ H1 Q
theorem zcE {c:Expr}(hc:PT X c tA)(ha:PE X a ta)(hb:PE X b tb):PE X (.IfExp c a b pos) (tIf tA ta tb):=by
 intro pins s σ H Q I h
 refine wpAny_IfExp (thn (hc pins s σ H _ I h) fun d s1 ⟨H1,I1,q1⟩=>?_)
 cases d with
 | true=>exact ha pins s1 σ H1 Q I1 q1
 | false=>exact hb pins s1 σ H1 Q I1 q1
end
end L2
namespace L2
open PySem PySem.Spec PyProof.Rows
def SqL (K:PySem.W.Frag)(H:Hp)(a:Addr)(xs:List V):Prop:=
 Rd H a (.lst xs)∨
  ∃(o:Obj) (its:Array Value) (n:Nat),K.lookup a=some o∧o.cls=.type "list" ∧o.dict=none∧o.data=.seq its n∧its.size≤sizeLine∧Vals xs its.toList
def SqT (K:PySem.W.Frag)(H:Hp)(a:Addr)(xs:List V):Prop:=
 Rd H a (.tup xs)∨
  ∃(o:Obj) (its:Array Value) (n:Nat),K.lookup a=some o∧o.cls=.type "tuple" ∧o.data=.seq its n∧its.size≤sizeLine∧Vals xs its.toList
def absV:Value→Option V
 | .none=>some .non
 | .bool b=>some (.bl b)
 | .int i _=>some (.int i)
 | .str x _=>some (.str x)
 | .bytes b _=>some (.byt b)
 | .float b _=>some (.flt b)
 | .ref a=>some (.ref a)
 | .type n=>some (.ty n)
 | _=>none
theorem RelV.abs {x:V}{u:Value}(r:RelV x u):absV u=some x:=by
 cases x with
 | non=>cases r;rfl
 | bl _=>cases r;rfl
 | int _=>obtain ⟨t,rfl⟩:=r;rfl
 | str _=>obtain ⟨t,rfl⟩:=r;rfl
 | byt _=>obtain ⟨t,rfl⟩:=r;rfl
 | flt _=>obtain ⟨t,rfl⟩:=r;rfl
 | ref _=>cases r;rfl
 | ty _=>cases r;rfl
theorem RelV.inj {x y:V}{u:Value}(r:RelV x u)(q:RelV y u):x=y:=Option.some.inj (r.abs.symm.trans q.abs)
theorem Vals.inj:∀{xs ys:List V} {us:List Value},Vals xs us→Vals ys us→xs=ys
 | _,_,_,.nil,.nil=>rfl
 | _,_,_,.cons r t,.cons r' t'=>by rw [r.inj r',Vals.inj t t']
section
variable {X:Cx}{pins:List (Addr ×Obj)}{σ:St}{H:Hp}{s:Shared}{a:Addr}{xs ys:List V}
theorem SqL.of {K:PySem.W.Frag}(h:H a=some (.lst xs)):SqL K H a xs:=.inl (.inl h)
theorem SqT.of {K:PySem.W.Frag}(h:H a=some (.tup xs)):SqT K H a xs:=.inl (.inl h)
theorem Inv.list (I:Inv X pins σ H s)(h:SqL X.K H a xs):∃its:List Value,Vals xs its∧PlainL s.heap a its.toArray∧xs.length≤sizeLine:=by
 rcases h with h | ⟨o,its,n,hk,hc,hd,hs,hz,r⟩
 ·obtain ⟨z,its,n,r,e⟩:=h.ok I.hok
  exact ⟨its,r,⟨_,n,e,rfl,rfl,rfl⟩,z⟩
 ·refine ⟨its.toList,r,⟨o,n,I.kIn a o hk,hc,hd,by simpa using hs⟩,?_⟩
  have e:=r.length
  simp only [Array.length_toList] at e
  omega
theorem Inv.tuple (I:Inv X pins σ H s)(h:SqT X.K H a xs):∃its:List Value,Vals xs its∧IsTup s.heap a its.toArray∧xs.length≤sizeLine:=by
 rcases h with h | ⟨o,its,n,hk,hc,hs,hz,r⟩
 ·obtain ⟨z,its,r,p⟩:=h.ok I.hok
  exact ⟨its,r,p,z⟩
 ·refine ⟨its.toList,r,⟨o,I.kIn a o hk,hc,n,by simpa using hs⟩,?_⟩
  have e:=r.length
  simp only [Array.length_toList] at e
  omega
theorem Inv.list_inj (I:Inv X pins σ H s)(h:SqL X.K H a xs)(h':SqL X.K H a ys):xs=ys:=by
 obtain ⟨its,r,⟨o,n,e,_,_,d⟩,_⟩:=I.list h
 obtain ⟨its',r',⟨o',n',e',_,_,d'⟩,_⟩:=I.list h'
 rw [e] at e';cases e'
 rw [d] at d'
 injection d' with d1 _
 have:its=its':=by simpa using congrArg Array.toList d1
 subst this
 exact r.inj r'
theorem Inv.tuple_inj (I:Inv X pins σ H s)(h:SqT X.K H a xs)(h':SqT X.K H a ys):xs=ys:=by
 obtain ⟨its,r,⟨o,e,_,n,d⟩,_⟩:=I.tuple h
 obtain ⟨its',r',⟨o',e',_,n',d'⟩,_⟩:=I.tuple h'
 rw [e] at e';cases e'
 rw [d] at d'
 injection d' with d1 _
 have:its=its':=by simpa using congrArg Array.toList d1
 subst this
 exact r.inj r'
end
abbrev Cx.wish (X:Cx)(E:Value→Shared→Prop):Cx:={X with xe:=E}
abbrev Cx.nox (X:Cx):Cx:=X.wish fun _ _=>False
theorem Cx.Ok.wish {X:Cx}(ok:X.Ok)(E:Value→Shared→Prop):(X.wish E).Ok:=
 ⟨ok.mod,ok.kind,ok.glob,ok.blt,ok.above,ok.inj,ok.has,ok.cab,ok.hd,ok.frames,ok.stk,ok.exf,ok.bs,ok.bsz,ok.noex,ok.exfs,ok.funs,ok.frf⟩
theorem Cx.Ok.unwish {X:Cx}{E:Value→Shared→Prop}(ok:(X.wish E).Ok):X.Ok:=
 ⟨ok.mod,ok.kind,ok.glob,ok.blt,ok.above,ok.inj,ok.has,ok.cab,ok.hd,ok.frames,ok.stk,ok.exf,ok.bs,ok.bsz,ok.noex,ok.exfs,ok.funs,ok.frf⟩
section
variable {X:Cx}{pins:List (Addr ×Obj)}{σ:St}{H:Hp}{s:Shared}{E:Value→Shared→Prop}
theorem Inv.wish (I:Inv X pins σ H s)(E:Value→Shared→Prop):Inv (X.wish E) pins σ H s:=⟨I.ok.wish E,I.os,I.bare,I.base,I.loc,I.cell,I.free,I.freeC,I.pin,I.hok,I.len⟩
theorem Inv.unwish (I:Inv (X.wish E) pins σ H s):Inv X pins σ H s:=⟨I.ok.unwish,I.os,I.bare,I.base,I.loc,I.cell,I.free,I.freeC,I.pin,I.hok,I.len⟩
theorem SP.unwish {D:Ends}{f:Flow}{s':Shared}(h:SP (X.wish E) pins D f s'):SP X pins D f s':=by
 cases f with
 | next=>obtain ⟨σ',H',I,q⟩:=h;exact ⟨σ',H',I.unwish,q⟩
 | brk=>obtain ⟨σ',H',I,q⟩:=h;exact ⟨σ',H',I.unwish,q⟩
 | cont=>obtain ⟨σ',H',I,q⟩:=h;exact ⟨σ',H',I.unwish,q⟩
 | ret u=>obtain ⟨v,σ',H',I,r,q⟩:=h;exact ⟨v,σ',H',I.unwish,r,q⟩
theorem PE.nox {e:Expr}{t:TE}(h:PE X.nox e t):PE X e t:=fun pins s σ H Q I hw=>
 wpAny_mono (h pins s σ H Q (I.wish _) hw) (fun _ _ ⟨v,H',I',r,q⟩=>⟨v,H',I'.unwish,r,q⟩) fun _ _ z=>False.elim z
theorem PT.nox {e:Expr}{t:TT}(h:PT X.nox e t):PT X e t:=fun pins s σ H Q I hw=>
 wpAny_mono (h pins s σ H Q (I.wish _) hw) (fun _ _ ⟨H',I',q⟩=>⟨H',I'.unwish,q⟩) fun _ _ z=>False.elim z
theorem PSs.nox {st:List Stmt}{t:TS}(h:PSs X.nox st t):PSs X st t:=fun pins s σ H D I hw=>
 wpAny_mono (h pins s σ H D (I.wish _) hw) (fun _ _ q=>q.unwish) fun _ _ z=>False.elim z
end
section
variable {X:Cx}{st:Stmt}{rest:List Stmt}{t u:TS}{e:Expr}{te:TE}{pos:Pos}
def zmG:TS:=fun D σ H=>D.nx σ H
def tSeq (t u:TS):TS:=fun D σ H=>t {D with nx:=u D} σ H
theorem zu:PSs X [] zmG:=fun _ _ σ H _ I h=>wpAny_execs_nil ⟨σ,H,I,h⟩
theorem zd (h1:PS X st t)(h2:PSs X rest u):PSs X (st::rest) (tSeq t u):=by
 intro pins s σ H D I h
 refine wpAny_execs_cons (thn (h1 pins s σ H {D with nx:=u D} I h) fun f s1 q=>?_)
 cases f with
 | next=>
  obtain ⟨σ',H',I',q⟩:=q
  exact h2 pins s1 σ' H' D I' q
 | ret v=>exact q
 | brk=>exact q
 | cont=>exact q
theorem ze (h1:PS X st t):PSs X [st] t:=by
 intro pins s σ H D I h
 refine wpAny_execs_cons (thn (h1 pins s σ H D I h) fun f s1 q=>?_)
 cases f with
 | next=>exact wpAny_execs_nil q
 | ret v=>exact q
 | brk=>exact q
 | cont=>exact q
def zna:TS:=fun D σ H=>D.bk σ H
def zmy:TS:=fun D σ H=>D.ct σ H
theorem zfH:PS X (.Continue pos) zmy:=fun _ _ σ H _ I h=>wpAny_Continue ⟨σ,H,I,h⟩
theorem Inv.quiet {pins:List (Addr ×Obj)}{σ:St}{H:Hp}{s:Shared}(I:Inv X pins σ H s):interactive X.env=false:=by simp [interactive,I.ok.kind]
def zmk (te:TE):TS:=fun D σ H=>te σ H fun _ H1=>D.nx σ H1
theorem zaC (he:PE X e te)(hs:swapsWith e none pos.line X.env=pure false:=by rfl):PS X (.Expr e pos) (zmk te):=by
 intro pins s σ H D I h
 exact wpAny_Expr_any (thn (he pins s σ H _ I h) fun v s1 ⟨x,H1,I1,r1,q1⟩=>⟨σ,H1,I1,q1⟩) I.quiet hs
def tRet (te:TE):TS:=fun D σ H=>te σ H D.rt
theorem zl (he:PE X e te):PS X (.Return (some e) pos) (tRet te):=by
 intro pins s σ H D I h
 exact wpAny_Return_some (thn (he pins s σ H _ I h) fun v s1 ⟨x,H1,I1,r1,q1⟩=>⟨x,σ,H1,I1,r1,q1⟩)
def znq:TS:=fun D _ H=>D.rt .non H
def tIfS (c:TT)(t u:TS):TS:=fun D σ H=>c σ H fun b H1=>if b=true then t D σ H1 else u D σ H1
theorem zE {c:Expr}{a b:List Stmt}{tc:TT}(hc:PT X c tc)(ha:PSs X a t)(hb:PSs X b u):PS X (.If c a b pos) (tIfS tc t u):=by
 intro pins s σ H D I h
 refine wpAny_If (thn (hc pins s σ H _ I h) fun d s1 ⟨H1,I1,q1⟩=>?_)
 cases d with
 | true=>exact ha pins s1 σ H1 D I1 q1
 | false=>exact hb pins s1 σ H1 D I1 q1
def zlw:TS:=fun _ _ _=>False
theorem zdz {sts:List Stmt}:PSs X sts zlw:=fun _ _ _ _ _ _ h=>h.elim
end
abbrev TG:=V→St→Hp→(St→Hp→Prop)→Prop
abbrev TGs:=List V→St→Hp→(St→Hp→Prop)→Prop
def PG (X:Cx)(target:Expr)(t:TG):Prop:=
 ∀(pins:List (Addr ×Obj)) (s:Shared) (σ:St) (H:Hp) (v:V) (u:Value) (Q:St→Hp→Prop),Inv X pins σ H s→RelV v u→t v σ H Q→
  wpAny (model X.prog X.w) X.A (assign target X.env u) (fun _ s'=>∃σ' H',Inv X pins σ' H' s'∧Q σ' H') X.xe s
def PGs (X:Cx)(ts:List Expr)(t:TGs):Prop:=
 ∀(pins:List (Addr ×Obj)) (s:Shared) (σ:St) (H:Hp) (vs:List V) (us:List Value) (Q:St→Hp→Prop),Inv X pins σ H s→Vals vs us→t vs σ H Q→
  wpAny (model X.prog X.w) X.A (assignInOrder ((assignEach ts X.env).map (·.2)) us) (fun _ s'=>∃σ' H',Inv X pins σ' H' s'∧Q σ' H') X.xe s
abbrev TSet:=V→V→V→Hp→(Hp→Prop)→Prop
def PSet (X:Cx)(t:TSet):Prop:=
 ∀(pins:List (Addr ×Obj)) (s:Shared) (σ:St) (H:Hp) (o i v:V) (ov iv u:Value) (Q:Hp→Prop),Inv X pins σ H s→RelV o ov→RelV i iv→RelV v u→t o i v H Q→
  wpAny (model X.prog X.w) X.A (setItem ov iv u) (fun _ s'=>∃H',Inv X pins σ H' s'∧Q H') X.xe s
abbrev TIp:=V→V→Hp→VK→Prop
def PIp (X:Cx)(op:Operator)(t:TIp):Prop:=
 ∀(pins:List (Addr ×Obj)) (s:Shared) (σ:St) (H:Hp) (x y:V) (v u:Value) (Q:VK),Inv X pins σ H s→RelV x v→RelV y u→t x y H Q→
  wpAny (model X.prog X.w) X.A (inplaceOp op v u) (EP X pins σ Q) X.xe s
section
variable {X:Cx}{pos:Pos}
def zaZ (i:Nat):TG:=fun v σ H Q=>Q (σ.set i (some v)) H
theorem z7 {i:Nat}{x:Str}(hN:X.N.Nodup)(hi:X.N[i]? =some x)(hx:Loc X.env.scope x)(hf:X.fn x=true∨X.env.scope.names.lookup x=some .local:=by first | exact .inl rfl | exact .inr rfl | assumption):PG X (.Name x pos) (zaZ i):=by
 intro pins s σ H v u Q I r h
 exact wpAny_assign_Name (zcy I hN hi hx r (fun s' I'=>⟨_,H,I',h⟩) hf)
def gNil:TGs:=fun vs σ H Q=>vs=[]∧Q σ H
def zmg (t:TG)(u:TGs):TGs:=fun vs σ H Q=>∃v r,vs=v::r∧t v σ H fun σ' H'=>u r σ' H' Q
theorem zhn:PGs X [] gNil:=by
 intro pins s σ H vs us Q I r h
 obtain ⟨e,h⟩:=h
 subst e
 cases r
 exact assignInOrder_nil ⟨σ,H,I,h⟩
theorem zcB {e:Expr}{es:List Expr}{t:TG}{u:TGs}(h1:PG X e t)(h2:PGs X es u)
  (hs:(assignEach (e::es) X.env).map (·.2)=assign e X.env::(assignEach es X.env).map (·.2):=by rfl):PGs X (e::es) (zmg t u):=by
 intro pins s σ H vs us Q I r h
 obtain ⟨v,vr,e1,h⟩:=h
 subst e1
 cases r with
 | cons r rr=>
  rw [hs]
  refine assignInOrder_cons (thn (h1 pins s σ H _ _ _ I r h) fun _ s1 ⟨σ1,H1,I1,q1⟩=>?_)
  exact h2 pins s1 σ1 H1 _ _ Q I1 rr q1
def gTup (K:PySem.W.Frag)(n:Nat)(t:TGs):TG:=fun v σ H Q=>∃a xs,v=.ref a∧SqT K H a xs∧xs.length=n∧t xs σ H Q
theorem zlh {es:List Expr}{k:Nat}{t:TGs}{n:Nat}(hc:X.calm=true)(h:PGs X es t)
  (hn:(assignEach es X.env).length=n:=by rfl) (hst:(assignEach es X.env).findIdx? (·.1)=none:=by rfl):PG X (.Tuple es k pos) (gTup X.K n t):=by
 intro pins s σ H v u Q I r hw
 obtain ⟨a,xs,e1,hq,hl,hw⟩:=hw
 subst e1
 cases r
 obtain ⟨its,rv,ht,hz⟩:=I.tuple hq
 refine assign_Tuple_tuple (I.ok.hd hc) ht (by simp [hn,←hl,rv.length]) hst fun h' hx=>?_
 have I1:Inv X pins σ H {s with heap:=h'}:=I.kept (t':=s.toks) fun b o e=>hx b o (Nat.ne_of_lt (Heap.lt_size e)) e
 exact h pins _ σ H xs _ Q I1 (by simpa using rv) hw
def gSub (to ti:TE)(t:TSet):TG:=fun v σ H Q=>to σ H fun o H1=>ti σ H1 fun i H2=>t o i v H2 fun H3=>Q σ H3
def tAsg (te:TE)(g:TG):TS:=fun D σ H=>te σ H fun x H1=>g x σ H1 D.nx
theorem zlf {tg e:Expr}{te:TE}{g:TG}(he:PE X e te)(hg:PG X tg g)(hs:swapsWithSole [tg] e pos.line X.env=pure false:=by rfl)(hw:swappedStores [tg] e X.env=pure none:=by rfl)
  (h1:(assignEach [tg] X.env).map (·.2)=[assign tg X.env]:=by rfl):PS X (.Assign [tg] e pos) (tAsg te g):=by
 intro pins s σ H D I h
 refine wpAny_Assign_stores (thn (he pins s σ H _ I h) fun v s1 ⟨x,H1,I1,r1,q1⟩=>?_) hs hw
 rw [h1]
 exact thn (hg pins s1 σ H1 x v _ I1 r1 q1) fun _ s2 q=>q
theorem zj {i:Nat}{x:Str}{e:Expr}{te:TE}{pos':Pos}(hN:X.N.Nodup)(hi:X.N[i]? =some x)(hx:Loc X.env.scope x)(he:PE X e te)(hs:swapsWith e (some (.Name x pos')) pos.line X.env=pure false:=by rfl)(hf:X.fn x=true∨X.env.scope.names.lookup x=some .local:=by first | exact .inl rfl | exact .inr rfl | assumption):
  PS X (.Assign [.Name x pos'] e pos) (tAsg te (zaZ i)):=by
 intro pins s σ H D I h
 refine wpAny_Assign_Name (thn (he pins s σ H _ I h) fun v s1 ⟨y,H1,I1,r1,q1⟩=>?_) hs
 exact zcy I1 hN hi hx r1 (fun s2 I2=>⟨_,H1,I2,q1⟩) hf
def tPar (i j:Nat)(ta:TA):TS:=fun D σ H=>ta σ H fun vs H1=>∃v w,vs=[v,w]∧D.nx ((σ.set i (some v)).set j (some w)) H1
theorem zjr {i j:Nat}{x y:Str}{a b:Expr}{ta:TA}{px py pt:Pos}{kt k2 pt2}(hc:X.calm=true)(hN:X.N.Nodup)(hi:X.N[i]? =some x)(hj:X.N[j]? =some y)(hij:i≠j)
  (hx:X.env.scope.names.lookup x=some .local) (hy:X.env.scope.names.lookup y=some .local) (ha:PA X [a,b] ta)
  (hw:swappedStores [.Tuple [.Name x px,.Name y py] kt pt] (.Tuple [a,b] k2 pt2) X.env=pure (some [x,y]))
  (hs:swapsWithSole [.Tuple [.Name x px,.Name y py] kt pt] (.Tuple [a,b] k2 pt2) pos.line X.env=pure false:=by rfl):
  PS X (.Assign [.Tuple [.Name x px,.Name y py] kt pt] (.Tuple [a,b] k2 pt2) pos) (tPar i j ta):=by
 intro pins s σ H D I h
 rw [exec_Assign_arm]
 refine wpAny_bind (wpAny_standAt ?_)
 rw [hs]
 refine wpAny_bind (wpAny_pure ?_)
 rw [if_neg (by decide)]
 refine wpAny_bind (Tuple_ (thn (ha _ pins s σ H _ I h) fun us s1 ⟨vs,H1,I1,r1,q1⟩=>?_))
 obtain ⟨v,w,e1,q1⟩:=q1
 subst e1
 obtain ⟨u1,u2,rfl,rv,rw'⟩:∃u1 u2,us=[u1,u2]∧RelV v u1∧RelV w u2:=by
  cases r1 with
  | cons p q=>
   cases q with
   | cons p' q'=>
    cases q'
    exact ⟨_,_,rfl,p,p'⟩
 refine wpAny_newObj_type ?_ (by show 2≤sizeLine;decide)
 have I2:Inv X pins σ H1 {s1 with heap:=s1.heap.push {cls:=.type "tuple",data:=.seq [u1,u2].toArray}}:=I1.kept (t':=s1.toks) fun b o e=>Heap.get?_push_of_some _ e
 rw [hw]
 refine wpAny_bind (wpAny_pure ?_)
 show wpAny (model X.prog X.w) X.A (do rule "assign.swapped-stores";let items←unpackItems (.ref s1.heap.objs.size) 2 none;assignInOrder [fun v=>bindName X.env y v,fun v=>bindName X.env x v] items.reverse;pure Flow.next) _ _ _
 refine wpAny_bind (wpAny_rule (wpAny_bind (unpackItems_tuple (items:= #[u1,u2]) (I.ok.hd hc) (IsTup.new s1.heap _) fun h' hx'=>?_)))
 have I3:=I2.kept (h':=h') (t':=s1.toks) fun b o e=>hx' b o (Nat.ne_of_lt (Heap.lt_size e)) e
 show wpAny _ _ (assignInOrder [fun v=>bindName X.env y v,fun v=>bindName X.env x v] [u2,u1] >>=fun _=>pure Flow.next) _ _ _
 refine wpAny_bind (assignInOrder_cons (wpAny_bindName (zcy I3 hN hj (.inl hy) rw' (fun s2 I4=>?_) (.inr hy))))
 refine assignInOrder_cons (wpAny_bindName (zcy I4 hN hi (.inl hx) rv (fun s3 I5=>assignInOrder_nil (wpAny_pure ?_)) (.inr hx)))
 rw [List.set_comm _ _ (Ne.symm hij)] at I5
 exact ⟨_,H1,I5,q1⟩
def tAug (i:Nat)(te:TE)(ti:TIp):TS:=fun D σ H=>∃x,σ[i]? =some (some x)∧te σ H fun y H1=>ti x y H1 fun z H2=>D.nx (σ.set i (some z)) H2
def znz (to ti te:TE)(tget:V→V→Hp→VK→Prop)(tip:TIp)(tset:TSet):TS:=fun D σ H=>to σ H fun o H1=>ti σ H1 fun i H2=>tget o i H2 fun x H3=>te σ H3 fun y H4=>tip x y H4 fun z H5=>tset o i z H5 fun H6=>D.nx σ H6
def PGet (X:Cx)(t:V→V→Hp→VK→Prop):Prop:=
 ∀(pins:List (Addr ×Obj)) (s:Shared) (σ:St) (H:Hp) (o i:V) (ov iv:Value) (Q:VK),Inv X pins σ H s→RelV o ov→RelV i iv→t o i H Q→
  wpAny (model X.prog X.w) X.A (getItem ov iv) (EP X pins σ Q) X.xe s
def ipI (f:Int→Int→Int):TIp:=fun x y H Q=>∃i j,x=.int i∧y=.int j∧Q (.int (f i j)) H
end
section
variable {X:Cx}{pos:Pos}
def zlq (c:TT)(tb:TS):TS:=fun D σ H=>∃W:Nat→St→Hp→Prop,(∃m,W m σ H)∧∀m σ H,W m σ H→
 c σ H fun b H1=>if b=true then∃N:St→Hp→Prop,(∀σ' H',N σ' H'→∃m',m' < m∧W m' σ' H')∧tb {D with nx:=N,ct:=N,bk:=D.nx} σ H1 else D.nx σ H1
theorem zdd {c:Expr}{body:List Stmt}{tc:TT}{tb:TS}(hp:PassesOwn (model X.prog X.w) X.A X.env X.xe)(hc:PT X c tc)(hb:PSs X body tb):PS X (.While c body [] pos) (zlq tc tb):=by
 intro pins s σ H D I h
 obtain ⟨W,⟨m0,w0⟩,turn⟩:=h
 refine wpAny_While (codeAny_whileLoop (fun n s'=>∃σ' H',Inv X pins σ' H' s'∧W n σ' H') ?_ m0 ⟨σ,H,I,w0⟩)
 rintro n s1 ⟨σ1,H1,I1,w1⟩
 refine wpAny_passesOwn hp (thn (hc pins s1 σ1 H1 _ I1 (turn n σ1 H1 w1)) fun b s2 ⟨H2,I2,q2⟩=>?_)
 cases b with
 | true=>
  obtain ⟨N,hN,q2⟩:=q2
  rw [if_pos rfl]
  refine wpAny_passesOwn hp (thn (hb pins s2 σ1 H2 _ I2 q2) fun f s3 q3=>?_)
  cases f with
  | next=>
   obtain ⟨σ3,H3,I3,n3⟩:=q3
   obtain ⟨m',hm,w3⟩:=hN σ3 H3 n3
   exact ⟨m',hm,σ3,H3,I3,w3⟩
  | cont=>
   obtain ⟨σ3,H3,I3,n3⟩:=q3
   obtain ⟨m',hm,w3⟩:=hN σ3 H3 n3
   exact ⟨m',hm,σ3,H3,I3,w3⟩
  | brk=>exact q3
  | ret v=>exact q3
 | false=>
  rw [if_neg Bool.false_ne_true]
  exact wpAny_execs_nil ⟨σ1,H2,I2,q2⟩
end
structure It where
 go:Nat→Hp→Prop
 yld:Nat→Hp→V→Hp→Prop
 stop:Nat→Hp→Prop
def FpOk (X:Cx)(pins:List (Addr ×Obj))(H:Hp)(b:Addr):Prop:=
 H b=none∧b≠X.env.locals∧b∉X.fs∧(b∈X.ex∨X.s₀.heap.objs.size≤b)∧(∀x c,X.env.cells.lookup x=some c→c≠b)∧∀p∈X.pn++pins,p.1≠b
theorem Inv.fpOk {X:Cx}{pins:List (Addr ×Obj)}{σ:St}{H H':Hp}{s:Shared}{b:Addr}(I:Inv X pins σ H s)(hb:s.heap.objs.size≤b)(hn:H' b=none):FpOk X pins H' b:=by
 refine ⟨hn,Nat.ne_of_gt (Nat.lt_of_lt_of_le I.lt hb),I.nofs hb,.inr (Nat.le_trans I.sz hb),fun x c e z=>?_,fun p hp z=>?_⟩
 ·obtain ⟨v,q⟩:=I.cell x c e
  exact absurd (Nat.lt_of_lt_of_le q.lt (by rw [z];exact hb)) (Nat.lt_irrefl _)
 ·exact absurd (Nat.lt_of_lt_of_le (Heap.lt_size (I.pin p hp).1) (by rw [z];exact hb)) (Nat.lt_irrefl _)
structure Turn (P:Program)(w:World)(K:PySem.W.Frag)(tg:Expr)(J:It)(fp:List Addr)(it:Addr)(tn:Nat→Heap→Prop):Prop where
 mem:it∈fp
 obj:∀i h,tn i h→∀b∈fp,∃o,h.get? b=some o∧∀v,o.data≠ .cell v
 keep:∀i h h',tn i h→(∀b∈fp,∀o,h.get? b=some o→h'.get? b=some o)→tn i h'
 item:∀(X:Cx),X.prog=P→X.w=w→X.K=K→X.calm=true→∀(i:Nat) (pins:List (Addr ×Obj)) (s:Shared) (σ:St) (H:Hp) (E:Value→Shared→Prop),Inv X pins σ H s→(∀b∈fp,FpOk X pins H b)→tn i s.heap→J.go i H→
  wpAny (model P w) X.A (pyNext (.ref it)) (fun r s1=>∃u,r=some u∧
   wpAny (model P w) X.A (letOwnedTupleGo tg (.ref it) u) (fun _ s2=>∃x H',Inv X pins σ H' s2∧RelV x u∧J.yld i H x H'∧tn (i+1) s2.heap∧∀b∈fp,H' b=none) E s1) E s
 done:∀(X:Cx),X.prog=P→X.w=w→X.K=K→X.calm=true→∀(i:Nat) (pins:List (Addr ×Obj)) (s:Shared) (σ:St) (H:Hp) (E:Value→Shared→Prop),Inv X pins σ H s→(∀b∈fp,FpOk X pins H b)→tn i s.heap→J.stop i H→
  wpAny (model P w) X.A (pyNext (.ref it)) (fun r s1=>r=none∧Inv X pins σ H s1) E s
 self:∀(A:Around) (i:Nat) (s:Shared) (Q:Value→Shared→Prop) (E:Value→Shared→Prop),tn i s.heap→Q (.ref it) s→wpAny (model P w) A (pyIter (.ref it)) Q E s
abbrev TI:=St→Hp→(It→Hp→Prop)→Prop
def PIE (X:Cx)(pins:List (Addr ×Obj))(σ:St)(tg:Expr)(R:It→Hp→Prop)(itv:Value)(s2:Shared):Prop:=
 ∃(it:Addr) (fp:List Addr) (tn:Nat→Heap→Prop) (J:It) (H':Hp),itv=.ref it∧Inv X pins σ H' s2∧Turn X.prog X.w X.K tg J fp it tn∧tn 0 s2.heap∧(∀b∈fp,FpOk X pins H' b)∧R J H'
def PI (X:Cx)(tg iter:Expr)(wi:TI):Prop:=
 ∀(pins:List (Addr ×Obj)) (s:Shared) (σ:St) (H:Hp) (R:It→Hp→Prop),Inv X pins σ H s→wi σ H R→
  wpAny (model X.prog X.w) X.A (eval iter X.env) (fun v s1=>wpAny (model X.prog X.w) X.A (pyIter v) (PIE X pins σ tg R) X.xe s1) X.xe s
theorem zeV {M:Model}{A:Around}{E:Value→Shared→Prop}{s:Shared}{tg:Expr}{it:Addr}{u:Value}{o:Obj}{n:String}{vs:Array Value}{Q:Unit→Shared→Prop}(ho:s.heap.get? it=some o)(hc:o.cls=.type n)(hd:o.data=.fields vs)
  (hn:["enumerate","zip","dict_itemiterator","dict_reverseitemiterator","odict_iterator","itertools.zip_longest","itertools.pairwise"].contains n=false) (hQ:Q () s):wpAny M A (letOwnedTupleGo tg (.ref it) u) Q E s:=by
 unfold letOwnedTupleGo
 cases tg <;> first
  | exact wpAny_pure hQ
  | (cases u <;> first
    | exact wpAny_pure hQ
    | (refine wpAny_bind (wpAny_load ho ?_)
       rw [hc,hd]
       show wpAny M A (if (["enumerate","zip","dict_itemiterator","dict_reverseitemiterator","odict_iterator","itertools.zip_longest","itertools.pairwise"].contains n && vs[0]? ==some (rawInt _))=true then _ else _) Q E s
       rw [if_neg (by intro h;rw [hn,Bool.false_and] at h;cases h)]
       exact wpAny_pure hQ))
def Itl (K:PySem.W.Frag)(a:Addr):It:=
 ⟨fun i H=>∃xs x,SqL K H a xs∧xs[i]? =some x,fun i H x H'=>H'=H∧∀xs,SqL K H a xs→xs[i]? =some x,fun i H=>∃xs,SqL K H a xs∧xs.length≤i⟩
def Itt (K:PySem.W.Frag)(a:Addr):It:=
 ⟨fun i H=>∃xs x,SqT K H a xs∧xs[i]? =some x,fun i H x H'=>H'=H∧∀xs,SqT K H a xs→xs[i]? =some x,fun i H=>∃xs,SqT K H a xs∧xs.length≤i⟩
def Itr (lo:Int)(n:Nat):It:=⟨fun i _=>i < n,fun i H x H'=>H'=H∧x=.int (lo+i),fun i _=>n≤i⟩
theorem zib {P:Program}{w:World}{K:PySem.W.Frag}{tg:Expr}(a it:Addr):Turn P w K tg (Itl K a) [it] it (fun i h=>h.IsListIter it a i) where
 mem:=by simp
 obj:=fun i h st b hb=>by
  have e:b=it:=by simpa using hb
  subst e
  obtain ⟨o,e,c,d⟩:=st
  exact ⟨o,e,fun v z=>by rw [d] at z;cases z⟩
 keep:=fun i h h' st k=>st.at fun o e=>k it (by simp) o e
 item:=by
  intro X hP hw hK hc i pins s σ H E I hf st hg
  subst hP hw hK
  obtain ⟨xs,x,hq,hx⟩:=hg
  obtain ⟨its,rv,p,hz⟩:=I.list hq
  obtain ⟨u,hu,ru⟩:=rv.get hx
  obtain ⟨f0,f1,f2,f3,f4,f5⟩:=hf it (by simp)
  refine wpAny_pyNext_list_item st p.isList (x:=u) (by simpa using hu) fun h' st' sb=>?_
  have I1:Inv X pins σ H {s with heap:=h'}:=I.turned (t':=s.toks) (fun b o hb e=>(sb.2 b hb).trans e) f0 f1 f3 f4 f5
  obtain ⟨o,e,c,d⟩:=id st'
  exact ⟨u,rfl,zeV (s:={s with heap:=h'}) e c d (by decide) ⟨x,H,I1,ru,⟨rfl,fun ys hy=>by rw [I.list_inj hy hq];exact hx⟩,st',fun b hb=>(hf b hb).1⟩⟩
 done:=by
  intro X hP hw hK hc i pins s σ H E I hf st hg
  subst hP hw hK
  obtain ⟨xs,hq,hx⟩:=hg
  obtain ⟨its,rv,p,hz⟩:=I.list hq
  obtain ⟨f0,f1,f2,f3,f4,f5⟩:=hf it (by simp)
  have hl:=rv.length
  exact wpAny_pyNext_list_end (I.ok.hd hc) st p.isList (by simp;omega) fun h' eb=>⟨rfl,I.turned (t':=s.toks) (fun b o hb e=>eb b o hb e) f0 f1 f3 f4 f5⟩
 self:=fun _ _ _ _ _ st h=>wpAny_pyIter_listiter st h
theorem zgE {P:Program}{w:World}{K:PySem.W.Frag}{tg:Expr}(a it:Addr):Turn P w K tg (Itt K a) [it] it (fun i h=>h.IsTupleIter it a i) where
 mem:=by simp
 obj:=fun i h st b hb=>by
  have e:b=it:=by simpa using hb
  subst e
  obtain ⟨o,e,c,d⟩:=st
  exact ⟨o,e,fun v z=>by rw [d] at z;cases z⟩
 keep:=fun i h h' st k=>st.at fun o e=>k it (by simp) o e
 item:=by
  intro X hP hw hK hc i pins s σ H E I hf st hg
  subst hP hw hK
  obtain ⟨xs,x,hq,hx⟩:=hg
  obtain ⟨its,rv,p,hz⟩:=I.tuple hq
  obtain ⟨u,hu,ru⟩:=rv.get hx
  obtain ⟨f0,f1,f2,f3,f4,f5⟩:=hf it (by simp)
  refine wpAny_pyNext_tuple_item st (show s.heap.IsTuple a its.toArray from p) (x:=u) (by simpa using hu) fun h' st' sb=>?_
  have I1:Inv X pins σ H {s with heap:=h'}:=I.turned (t':=s.toks) (fun b o hb e=>(sb.2 b hb).trans e) f0 f1 f3 f4 f5
  obtain ⟨o,e,c,d⟩:=id st'
  exact ⟨u,rfl,zeV (s:={s with heap:=h'}) e c d (by decide) ⟨x,H,I1,ru,⟨rfl,fun ys hy=>by rw [I.tuple_inj hy hq];exact hx⟩,st',fun b hb=>(hf b hb).1⟩⟩
 done:=by
  intro X hP hw hK hc i pins s σ H E I hf st hg
  subst hP hw hK
  obtain ⟨xs,hq,hx⟩:=hg
  obtain ⟨its,rv,p,hz⟩:=I.tuple hq
  obtain ⟨f0,f1,f2,f3,f4,f5⟩:=hf it (by simp)
  have hl:=rv.length
  exact wpAny_pyNext_tuple_end (I.ok.hd hc) st (show s.heap.IsTuple a its.toArray from p) (by simp;omega) fun h' eb=>⟨rfl,I.turned (t':=s.toks) (fun b o hb e=>eb b o hb e) f0 f1 f3 f4 f5⟩
 self:=fun _ _ _ _ _ st h=>wpAny_pyIter_tupleiter st h
theorem zgK {P:Program}{w:World}{K:PySem.W.Frag}{tg:Expr}(it:Addr)(lo:Int)(n:Nat):Turn P w K tg (Itr lo n) [it] it (fun i h=>IsRangeIter h it (lo+(i:Nat) * 1) ((n:Int) - (i:Nat)) 1) where
 mem:=by simp
 obj:=fun i h st b hb=>by
  have e:b=it:=by simpa using hb
  subst e
  exact ⟨_,st,fun v z=>by
   have z':Data.fields _=Data.cell v:=z
   cases z'⟩
 keep:=fun i h h' st k=>k it (by simp) _ st
 item:=by
  intro X hP hw hK hc i pins s σ H E I hf st hg
  subst hP hw hK
  obtain ⟨f0,f1,f2,f3,f4,f5⟩:=hf it (by simp)
  have W:=Walks.range (prog:=X.prog) (w:=X.w) (I.ok.hd hc) it lo 1 n
  refine W.item i s _ _ hg st fun v h' tk hv st' kk=>?_
  obtain ⟨t,rfl⟩:=hv
  have I1:Inv X pins σ H {s with heap:=h',toks:=tk}:=I.turned (fun b o hb e=>kk b o (by simpa using hb) e) f0 f1 f3 f4 f5
  refine ⟨_,rfl,zeV (s:={s with heap:=h',toks:=tk}) (n:= "range_iterator") st' rfl rfl (by decide) ⟨.int (lo+i),H,I1,⟨t,?_⟩,⟨rfl,rfl⟩,st',fun b hb=>(hf b hb).1⟩⟩
  rw [Int.mul_one]
 done:=by
  intro X hP hw hK hc i pins s σ H E I hf st hg
  subst hP hw hK
  obtain ⟨f0,f1,f2,f3,f4,f5⟩:=hf it (by simp)
  exact wpAny_pyNext_range_end (I.ok.hd hc) st (by have:n≤i:=hg;omega) fun h' eb=>⟨rfl,I.turned (t':=s.toks) (fun b o hb e=>eb b o hb e) f0 f1 f3 f4 f5⟩
 self:=fun _ _ _ _ _ st h=>wpAny_pyIter_rangeiter st h
end L2
namespace L2
open PySem PySem.Spec PyProof.Rows
section
variable {X:Cx}{tg:Expr}
def zl9 (K:PySem.W.Frag)(tl:TE):TI:=fun σ H R=>tl σ H fun x H1=>∃a,x=.ref a∧(∃xs,SqL K H1 a xs)∧R (Itl K a) H1
def iTup (K:PySem.W.Frag)(tl:TE):TI:=fun σ H R=>tl σ H fun x H1=>∃a,x=.ref a∧(∃xs,SqT K H1 a xs)∧R (Itt K a) H1
theorem zcm {l:Expr}{tl:TE}(hl:PE X l tl):PI X tg l (zl9 X.K tl):=by
 intro pins s σ H R I h
 refine thn (hl pins s σ H _ I h) fun v s1 ⟨x,H1,I1,r1,q1⟩=>?_
 obtain ⟨a,e,⟨xs,hq⟩,q⟩:=q1
 subst e
 cases r1
 obtain ⟨its,rv,p,hz⟩:=I1.list hq
 refine wpAny_pyIter_list p.isList ?_
 refine ⟨s1.heap.objs.size,[s1.heap.objs.size],_,_,H1,rfl,I1.kept (t':=s1.toks) fun b o e=>Heap.get?_push_of_some _ e,zib a _,⟨_,Heap.get?_push_size _ rfl,rfl,rfl⟩,fun b hb=>?_,q⟩
 have e:b=s1.heap.objs.size:=by simpa using hb
 subst e
 exact I1.fpOk (Nat.le_refl _) (I1.hok.fresh (Nat.le_refl _))
theorem zeu {l:Expr}{tl:TE}(hl:PE X l tl):PI X tg l (iTup X.K tl):=by
 intro pins s σ H R I h
 refine thn (hl pins s σ H _ I h) fun v s1 ⟨x,H1,I1,r1,q1⟩=>?_
 obtain ⟨a,e,⟨xs,hq⟩,q⟩:=q1
 subst e
 cases r1
 obtain ⟨its,rv,p,hz⟩:=I1.tuple hq
 refine wpAny_pyIter_tuple (show s1.heap.IsTuple a its.toArray from p) ?_
 refine ⟨s1.heap.objs.size,[s1.heap.objs.size],_,_,H1,rfl,I1.kept (t':=s1.toks) fun b o e=>Heap.get?_push_of_some _ e,zgE a _,⟨_,Heap.get?_push_size _ rfl,rfl,rfl⟩,fun b hb=>?_,q⟩
 have e:b=s1.heap.objs.size:=by simpa using hb
 subst e
 exact I1.fpOk (Nat.le_refl _) (I1.hok.fresh (Nat.le_refl _))
theorem zjb {pins:List (Addr ×Obj)}{σ:St}{H:Hp}{s:Shared}{R:It→Hp→Prop}{E:Value→Shared→Prop}{lo hi:Int}{t u v:Tok}{tk:Nat}(I:Inv X pins σ H s)(h1: -(2 ^ 62)≤lo)(h2:lo < 2 ^ 62)(h3: -(2 ^ 62)≤hi)(h4:hi < 2 ^ 62)
  (q:R (Itr lo (hi - lo).toNat) H):wpAny (model X.prog X.w) X.A (pyIter (.ref s.heap.objs.size)) (PIE X pins σ tg R) E {s with heap:=s.heap.push {cls:=.type "range",data:=.fields #[.int lo t,.int hi u,.int 1 v]},toks:=tk}:=by
 refine wpAny_pyIter_range (IsRange.new ..) (small_one h1 h2 h3 h4) ?_
 have I1:Inv X pins σ H {s with heap:=s.heap.push {cls:=.type "range",data:=.fields #[.int lo t,.int hi u,.int 1 v]},toks:=tk}:=I.kept fun b o e=>Heap.get?_push_of_some _ e
 refine ⟨(s.heap.push {cls:=.type "range",data:=.fields #[.int lo t,.int hi u,.int 1 v]}).objs.size,[(s.heap.push {cls:=.type "range",data:=.fields #[.int lo t,.int hi u,.int 1 v]}).objs.size],_,_,H,rfl,
  I1.kept (t':=tk) fun b o e=>Heap.get?_push_of_some _ e,zgK _ lo (hi - lo).toNat,?_,fun b hb=>?_,q⟩
 ·have e1:lo+((0:Nat):Int) * 1=lo:=by simp
  have e2:(((hi - lo).toNat:Nat):Int) - ((0:Nat):Int)=Builtin.Range.rangeSize lo hi 1:=by rw [rangeSize_one];split <;> omega
  show IsRangeIter _ _ (lo+((0:Nat):Int) * 1) ((((hi - lo).toNat:Nat):Int) - ((0:Nat):Int)) 1
  rw [e1,e2]
  exact Heap.get?_push_size _ rfl
 ·have e:b=(s.heap.push {cls:=.type "range",data:=.fields #[.int lo t,.int hi u,.int 1 v]}).objs.size:=by simpa using hb
  subst e
  exact I1.fpOk (Nat.le_refl _) (I1.hok.fresh (Nat.le_refl _))
def zmv (ta:TA):TI:=fun σ H R=>ta σ H fun vs H1=>∃j:Int,vs=[.int j]∧ -(2 ^ 62)≤j∧j < 2 ^ 62∧R (Itr 0 j.toNat) H1
def znv (ta:TA):TI:=fun σ H R=>ta σ H fun vs H1=>∃i j:Int,vs=[.int i,.int j]∧(-(2 ^ 62)≤i∧i < 2 ^ 62∧ -(2 ^ 62)≤j∧j < 2 ^ 62)∧R (Itr i (j - i).toNat) H1
theorem za6 {a:Expr}{ta:TA}{p pos:Pos}(hg:Gl X "range") (hm:X.mg "range" =none) (ha:PA X [a] ta) (hs:starEach [a] X.env=[(false,eval a X.env)]:=by rfl):PI X tg (.Call (.Name "range" p) [a] [] pos) (zmv ta):=by
 intro pins s σ H R I h
 refine Call_ (zc2 I hg hm boot_range (PyProof.Rows.callWith_type1 (thn (ha pos pins s σ H _ I h) fun us s1 ⟨vs,H1,I1,r1,q1⟩=>?_) hs rfl))
 obtain ⟨j,e,q1,q2,q⟩:=q1
 subst e
 cases r1 with
 | cons r rr=>
  cases rr
  obtain ⟨t,rfl⟩:=r
  exact call_range_1 (zjb I1 (by omega) (by omega) q1 q2 (by simpa using q))
def tFor (wi:TI)(g:TG)(tb:TS):TS:=fun D σ H=>wi σ H fun J H1=>∃W:Nat→Nat→St→Hp→Prop,(∃m,W 0 m σ H1)∧∀i m σ H,W i m σ H→
 (J.stop i H∧D.nx σ H)∨(J.go i H∧∃N:St→Hp→Prop,(∀σ' H',N σ' H'→∃m',m' < m∧W (i+1) m' σ' H')∧∀x H',J.yld i H x H'→g x σ H' fun σ2 H2=>tb {D with nx:=N,ct:=N,bk:=D.nx} σ2 H2)
def zej (fp:List Addr)(h:Heap):List (Addr ×Obj):=fp.filterMap fun b=>(h.get? b).map fun o=>(b,o)
theorem zck {fp:List Addr}{h:Heap}{b:Addr}{o:Obj}(hb:b∈fp)(e:h.get? b=some o):(b,o)∈zej fp h:=List.mem_filterMap.mpr ⟨b,hb,by rw [e];rfl⟩
theorem zh2 {fp:List Addr}{h:Heap}{p:Addr ×Obj}(hp:p∈zej fp h):p.1∈fp∧h.get? p.1=some p.2:=by
 obtain ⟨b,hb,e⟩:=List.mem_filterMap.mp hp
 cases q:h.get? b with
 | none=>rw [q] at e;cases e
 | some o=>
  rw [q] at e
  have e':(b,o)=p:=Option.some.inj e
  subst e'
  exact ⟨hb,q⟩
theorem Inv.pinned {pins:List (Addr ×Obj)}{σ:St}{H:Hp}{s:Shared}{fp:List Addr}(I:Inv X pins σ H s)(hf:∀b∈fp,FpOk X pins H b)(ho:∀b∈fp,∃o,s.heap.get? b=some o∧∀v,o.data≠ .cell v):Inv X (pins++zej fp s.heap) σ H s:=
 I.pins_of fun p hp=>(List.mem_append.mp hp).elim (fun z=>I.pin p (List.mem_append_right _ z)) fun z=>by
  obtain ⟨hb,e⟩:=zh2 z
  obtain ⟨f0,f1,f2,_⟩:=hf p.1 hb
  obtain ⟨o,e',d⟩:=ho p.1 hb
  rw [e] at e';cases e'
  exact ⟨e,f0,f1,f2,d⟩
theorem Inv.unpinned {pins pl:List (Addr ×Obj)}{σ:St}{H:Hp}{s:Shared}(I:Inv X (pins++pl) σ H s):Inv X pins σ H s:=I.pins_of fun p hp=>I.pin p (List.mem_append_right _ (List.mem_append_left _ hp))
theorem zaA {iter:Expr}{body:List Stmt}{wi:TI}{g:TG}{tb:TS}{pos:Pos}(hp:PassesOwn (model X.prog X.w) X.A X.env X.xe)(hc:X.calm=true)(hi:PI X tg iter wi)(hg:PG X tg g)(hb:PSs X body tb)
  (hs:∀x,foldedSetIterable iter X.env x=pure x:=by intro _;rfl):PS X (.For tg iter body [] pos) (tFor wi g tb):=by
 intro pins s σ H D I h
 refine wpAny_For (thn (hi pins s σ H _ I h) fun v s1 h1=>thn h1 fun itv s2 h2=>?_) hs
 obtain ⟨it,fp,tn,J,H2,e,I2,T,st2,f2,W,⟨m0,w0⟩,turn⟩:=h2
 subst e
 have stat:∀{H':Hp},(∀b∈fp,H' b=none)→∀b∈fp,FpOk X pins H' b:=fun hn b hb=>⟨hn b hb,(f2 b hb).2⟩
 refine codeAny_forLoop_any (fun n s'=>∃i σ' H',Inv X pins σ' H' s'∧tn i s'.heap∧(∀b∈fp,H' b=none)∧W i n σ' H') ?_ m0 ⟨0,σ,H2,I2,st2,fun b hb=>(f2 b hb).1,w0⟩
 rintro n s3 ⟨i,σ3,H3,I3,st3,fr3,w3⟩
 rcases turn i n σ3 H3 w3 with ⟨stop,qn⟩ | ⟨go,N,hN,step⟩
 ·refine wpAny_passesOwn hp (thn (T.done X rfl rfl rfl hc i pins s3 σ3 H3 X.xe I3 (stat fr3) st3 stop) fun r s4 ⟨hr,I4⟩=>?_)
  subst hr
  exact wpAny_execs_nil ⟨σ3,H3,I4,qn⟩
 ·refine wpAny_passesOwn hp (thn (T.item X rfl rfl rfl hc i pins s3 σ3 H3 X.xe I3 (stat fr3) st3 go) fun r s4 ⟨u,hr,h4⟩=>?_)
  subst hr
  refine wpAny_passesOwn hp (thn h4 fun _ s5 ⟨x,H5,I5,r5,y5,st5,fr5⟩=>?_)
  have I5':=I5.pinned (stat fr5) (T.obj _ _ st5)
  refine wpAny_passesOwn hp (thn (hg _ s5 σ3 H5 x u _ I5' r5 (step x H5 y5)) fun _ s6 ⟨σ6,H6,I6,q6⟩=>?_)
  refine wpAny_passesOwn hp (thn (hb _ s6 σ6 H6 _ I6 q6) fun f s7 q7=>?_)
  have again:∀{σ7:St} {H7:Hp},Inv X (pins++zej fp s5.heap) σ7 H7 s7→N σ7 H7→∃m,m < n∧∃i σ' H',Inv X pins σ' H' s7∧tn i s7.heap∧(∀b∈fp,H' b=none)∧W i m σ' H':=fun {σ7 H7} I7 n7=>by
   obtain ⟨m',hm,w7⟩:=hN σ7 H7 n7
   refine ⟨m',hm,i+1,σ7,H7,I7.unpinned,T.keep _ _ _ st5 fun b hb o e=>(I7.pin (b,o) (List.mem_append_right _ (List.mem_append_right _ (zck hb e)))).1,fun b hb=>?_,w7⟩
   obtain ⟨o,e,d⟩:=T.obj _ _ st5 b hb
   exact (I7.pin (b,o) (List.mem_append_right _ (List.mem_append_right _ (zck hb e)))).2.1
  cases f with
  | next=>obtain ⟨σ7,H7,I7,n7⟩:=q7;exact again I7 n7
  | cont=>obtain ⟨σ7,H7,I7,n7⟩:=q7;exact again I7 n7
  | brk=>obtain ⟨σ7,H7,I7,q7⟩:=q7;exact ⟨σ7,H7,I7.unpinned,q7⟩
  | ret v=>obtain ⟨x7,σ7,H7,I7,r7,q7⟩:=q7;exact ⟨x7,σ7,H7,I7.unpinned,r7,q7⟩
end
theorem zc5 {K:PySem.W.Frag}{a:Addr}{xs:List V}{g:TG}{tb:TS}{D:Ends}{σ:St}{H:Hp}(Pv:Nat→St→Hp→Prop)(h0:Pv 0 σ H)(hl:∀i σ H,i≤xs.length→Pv i σ H→SqL K H a xs)
  (hs:∀i x σ H,xs[i]? =some x→Pv i σ H→g x σ H fun σ2 H2=>tb {D with nx:=Pv (i+1),ct:=Pv (i+1),bk:=D.nx} σ2 H2) (hd:∀σ H,Pv xs.length σ H→D.nx σ H):
  ∃W:Nat→Nat→St→Hp→Prop,(∃m,W 0 m σ H)∧∀i m σ H,W i m σ H→
   ((Itl K a).stop i H∧D.nx σ H)∨((Itl K a).go i H∧∃N:St→Hp→Prop,(∀σ' H',N σ' H'→∃m',m' < m∧W (i+1) m' σ' H')∧∀x H',(Itl K a).yld i H x H'→g x σ H' fun σ2 H2=>tb {D with nx:=N,ct:=N,bk:=D.nx} σ2 H2):=by
 refine ⟨fun i m σ H=>m=xs.length - i∧i≤xs.length∧Pv i σ H,⟨xs.length,by simp,Nat.zero_le _,h0⟩,?_⟩
 rintro i m σ H ⟨rfl,hi,p⟩
 have q:=hl i σ H hi p
 by_cases hlt:i < xs.length
 ·refine .inr ⟨⟨xs,xs[i],q,by simp [hlt]⟩,Pv (i+1),fun σ' H' p'=>⟨xs.length - (i+1),by omega,rfl,hlt,p'⟩,fun x H' y=>?_⟩
  obtain ⟨e,y⟩:=y
  subst e
  exact hs i x σ _ (y xs q) p
 ·have e:i=xs.length:=by omega
  subst e
  exact .inl ⟨⟨xs,q,Nat.le_refl _⟩,hd σ H p⟩
theorem ze8 {K:PySem.W.Frag}{a:Addr}{xs:List V}{g:TG}{tb:TS}{D:Ends}{σ:St}{H:Hp}(Pv:Nat→St→Hp→Prop)(h0:Pv 0 σ H)(hl:∀i σ H,i≤xs.length→Pv i σ H→SqT K H a xs)
  (hs:∀i x σ H,xs[i]? =some x→Pv i σ H→g x σ H fun σ2 H2=>tb {D with nx:=Pv (i+1),ct:=Pv (i+1),bk:=D.nx} σ2 H2) (hd:∀σ H,Pv xs.length σ H→D.nx σ H):
  ∃W:Nat→Nat→St→Hp→Prop,(∃m,W 0 m σ H)∧∀i m σ H,W i m σ H→
   ((Itt K a).stop i H∧D.nx σ H)∨((Itt K a).go i H∧∃N:St→Hp→Prop,(∀σ' H',N σ' H'→∃m',m' < m∧W (i+1) m' σ' H')∧∀x H',(Itt K a).yld i H x H'→g x σ H' fun σ2 H2=>tb {D with nx:=N,ct:=N,bk:=D.nx} σ2 H2):=by
 refine ⟨fun i m σ H=>m=xs.length - i∧i≤xs.length∧Pv i σ H,⟨xs.length,by simp,Nat.zero_le _,h0⟩,?_⟩
 rintro i m σ H ⟨rfl,hi,p⟩
 have q:=hl i σ H hi p
 by_cases hlt:i < xs.length
 ·refine .inr ⟨⟨xs,xs[i],q,by simp [hlt]⟩,Pv (i+1),fun σ' H' p'=>⟨xs.length - (i+1),by omega,rfl,hlt,p'⟩,fun x H' y=>?_⟩
  obtain ⟨e,y⟩:=y
  subst e
  exact hs i x σ _ (y xs q) p
 ·have e:i=xs.length:=by omega
  subst e
  exact .inl ⟨⟨xs,q,Nat.le_refl _⟩,hd σ H p⟩
theorem za8 {lo:Int}{n:Nat}{g:TG}{tb:TS}{D:Ends}{σ:St}{H:Hp}(Pv:Nat→St→Hp→Prop)(h0:Pv 0 σ H)
  (hs:∀i σ H,i < n→Pv i σ H→g (.int (lo+i)) σ H fun σ2 H2=>tb {D with nx:=Pv (i+1),ct:=Pv (i+1),bk:=D.nx} σ2 H2) (hd:∀σ H,Pv n σ H→D.nx σ H):
  ∃W:Nat→Nat→St→Hp→Prop,(∃m,W 0 m σ H)∧∀i m σ H,W i m σ H→
   ((Itr lo n).stop i H∧D.nx σ H)∨((Itr lo n).go i H∧∃N:St→Hp→Prop,(∀σ' H',N σ' H'→∃m',m' < m∧W (i+1) m' σ' H')∧∀x H',(Itr lo n).yld i H x H'→g x σ H' fun σ2 H2=>tb {D with nx:=N,ct:=N,bk:=D.nx} σ2 H2):=by
 refine ⟨fun i m σ H=>m=n - i∧i≤n∧Pv i σ H,⟨n,by simp,Nat.zero_le _,h0⟩,?_⟩
 rintro i m σ H ⟨rfl,hi,p⟩
 by_cases hlt:i < n
 ·refine .inr ⟨hlt,Pv (i+1),fun σ' H' p'=>⟨n - (i+1),by omega,rfl,hlt,p'⟩,fun x H' y=>?_⟩
  obtain ⟨e,y⟩:=y
  subst e y
  exact hs i σ _ hlt p
 ·have e:i=n:=by omega
  subst e
  exact .inl ⟨Nat.le_refl _,hd σ H p⟩
end L2
namespace L2
open PySem PySem.Spec PyProof.Rows
abbrev R2:=V→V→Hp→VK→Prop
def OpR (X:Cx)(f:Value→Value→Sem Value)(r:R2):Prop:=
 ∀(pins:List (Addr ×Obj)) (s:Shared) (σ:St) (H:Hp) (x y:V) (v u:Value) (Q:VK),Inv X pins σ H s→RelV x v→RelV y u→r x y H Q→
  wpAny (model X.prog X.w) X.A (f v u) (EP X pins σ Q) X.xe s
def UnR (X:Cx)(f:Value→Sem Value)(r:V→Hp→VK→Prop):Prop:=
 ∀(pins:List (Addr ×Obj)) (s:Shared) (σ:St) (H:Hp) (x:V) (v:Value) (Q:VK),Inv X pins σ H s→RelV x v→r x H Q→
  wpAny (model X.prog X.w) X.A (f v) (EP X pins σ Q) X.xe s
def za4 (X:Cx)(f:Value)(r:List V→Hp→VK→Prop):Prop:=
 ∀(pins:List (Addr ×Obj)) (s:Shared) (σ:St) (H:Hp) (xs:List V) (us:List Value) (Q:VK),Inv X pins σ H s→Vals xs us→r xs H Q→
  wpAny (model X.prog X.w) X.A (call f us) (EP X pins σ Q) X.xe s
def TruR (X:Cx)(r:V→Hp→(Bool→Hp→Prop)→Prop):Prop:=
 ∀(pins:List (Addr ×Obj)) (s:Shared) (σ:St) (H:Hp) (x:V) (v:Value) (Q:Bool→Hp→Prop),Inv X pins σ H s→RelV x v→r x H Q→
  wpAny (model X.prog X.w) X.A (truthy v) (TP X pins σ Q) X.xe s
def tOp (r:R2)(ta tb:TE):TE:=fun σ H Q=>ta σ H fun x H1=>tb σ H1 fun y H2=>r x y H2 Q
def tUn (r:V→Hp→VK→Prop)(ta:TE):TE:=fun σ H Q=>ta σ H fun x H1=>r x H1 Q
def rI (C:Int→Int→Prop)(g:Int→Int→V):R2:=fun x y H Q=>∃i j,x=.int i∧y=.int j∧C i j∧Q (g i j) H
def rI0 (g:Int→Int→V):R2:=fun x y H Q=>∃i j,x=.int i∧y=.int j∧Q (g i j) H
def rU (g:Int→V):V→Hp→VK→Prop:=fun x H Q=>∃i,x=.int i∧Q (g i) H
section
variable {X:Cx}{a b c:Expr}{ta tb tc:TE}{pos:Pos}
theorem binT (ha:PE X a ta)(hb:PE X b tb){pins:List (Addr ×Obj)}{s:Shared}{σ:St}{H:Hp}{R:V→V→Hp→Prop}(I:Inv X pins σ H s)
  (h:ta σ H fun x H1=>tb σ H1 fun y H2=>R x y H2) {Q:Value→Shared→Prop} {f:Value→Value→Sem Value}
  (hf:∀v u s2 x y H2,Inv X pins σ H2 s2→RelV x v→RelV y u→R x y H2→wpAny (model X.prog X.w) X.A (f v u) Q X.xe s2):
  wpAny (model X.prog X.w) X.A (eval a X.env) (fun v s₁=>wpAny (model X.prog X.w) X.A (eval b X.env) (fun u s₂=>wpAny (model X.prog X.w) X.A (f v u) Q X.xe s₂) X.xe s₁) X.xe s:=by
 refine thn (ha pins s σ H _ I h) fun v s1 ⟨x,H1,I1,r1,q1⟩=>?_
 refine thn (hb pins s1 σ H1 _ I1 q1) fun u s2 ⟨y,H2,I2,r2,q2⟩=>?_
 exact hf v u s2 x y H2 I2 r1 r2 q2
theorem zo {op:Operator}{r:R2}(ho:OpR X (binaryOp op) r)(ha:PE X a ta)(hb:PE X b tb):PE X (.BinOp a op b pos) (tOp r ta tb):=by
 intro pins s σ H Q I h
 exact wpAny_BinOp (binT ha hb I h fun v u s2 x y H2 I2 rx ry q=>ho pins s2 σ H2 x y v u Q I2 rx ry q)
theorem zdn {op:UnaryOp}{r:V→Hp→VK→Prop}(ho:UnR X (unaryOp op) r)(ha:PE X a ta):PE X (.UnaryOp op a pos) (tUn r ta):=by
 intro pins s σ H Q I h
 exact UnaryOp_ (thn (ha pins s σ H _ I h) fun v s1 ⟨x,H1,I1,r1,q1⟩=>ho pins s1 σ H1 x v Q I1 r1 q1)
theorem opI {f:Value→Value→Sem Value}{C:Int→Int→Prop}{g:Int→Int→Int}
  (rule:∀(i j:Int) (t u:Tok) (s:Shared) (Q:Value→Shared→Prop) (E:Value→Shared→Prop),C i j→Q (.int (g i j) s.toks) {s with toks:=s.toks+1}→wpAny (model X.prog X.w) X.A (f (.int i t) (.int j u)) Q E s):
  OpR X f (rI C fun i j=>.int (g i j)):=by
 intro pins s σ H x y v u Q I rx ry h
 obtain ⟨i,j,rfl,rfl,hc,q⟩:=h
 obtain ⟨t,rfl⟩:=rx
 obtain ⟨t',rfl⟩:=ry
 exact rule i j t t' s _ _ hc ⟨.int (g i j),H,I.tok _,⟨_,rfl⟩,q⟩
theorem opI0 {f:Value→Value→Sem Value}{g:Int→Int→Int}
  (rule:∀(i j:Int) (t u:Tok) (s:Shared) (Q:Value→Shared→Prop) (E:Value→Shared→Prop),Q (.int (g i j) s.toks) {s with toks:=s.toks+1}→wpAny (model X.prog X.w) X.A (f (.int i t) (.int j u)) Q E s):
  OpR X f (rI0 fun i j=>.int (g i j)):=by
 intro pins s σ H x y v u Q I rx ry h
 obtain ⟨i,j,rfl,rfl,q⟩:=h
 obtain ⟨t,rfl⟩:=rx
 obtain ⟨t',rfl⟩:=ry
 exact rule i j t t' s _ _ ⟨.int (g i j),H,I.tok _,⟨_,rfl⟩,q⟩
theorem opB0 {f:Value→Value→Sem Value}{g:Int→Int→Bool}
  (rule:∀(i j:Int) (t u:Tok) (s:Shared) (Q:Value→Shared→Prop) (E:Value→Shared→Prop),Q (.bool (g i j)) s→wpAny (model X.prog X.w) X.A (f (.int i t) (.int j u)) Q E s):
  OpR X f (rI0 fun i j=>.bl (g i j)):=by
 intro pins s σ H x y v u Q I rx ry h
 obtain ⟨i,j,rfl,rfl,q⟩:=h
 obtain ⟨t,rfl⟩:=rx
 obtain ⟨t',rfl⟩:=ry
 exact rule i j t t' s _ _ ⟨.bl (g i j),H,I,rfl,q⟩
def CDiv (i j:Int):Prop:=0 < j∧j < 1073741824
def znn (i j:Int):Prop:=j≠0∧j.natAbs < 1073741824
def CPow (i j:Int):Prop:=0≤j∧j≤1000000∧i.natAbs < 2 ^ 64
def CMul (i j:Int):Prop:=(-(2 ^ 64) < i∧i < 2 ^ 64)∨(-(2 ^ 64) < j∧j < 2 ^ 64)
theorem CMul.ok {i j:Int}(h:CMul i j):IntMulOk i j:=by
 rcases h with ⟨h1,h2⟩ | ⟨h1,h2⟩
 ·exact .of_left (intBits_le_64 h1 h2)
 ·exact .of_right (intBits_le_64 h1 h2)
theorem zO:OpR X (binaryOp .Add) (rI0 fun i j=>.int (i+j)):=opI0 fun _ _ _ _ _ _ _ q=>add_int q
theorem za0:OpR X (binaryOp .Sub) (rI0 fun i j=>.int (i - j)):=opI0 fun _ _ _ _ _ _ _ q=>sub_int q
theorem zaE:OpR X (binaryOp .Mult) (rI CMul fun i j=>.int (i * j)):=opI fun _ _ _ _ _ _ _ hc q=>mul_int q hc.ok
theorem z8:OpR X (binaryOp .Mod) (rI (fun _ j=>0 < j) fun i j=>.int (i % j)):=opI fun i j _ _ _ _ _ hc q=>by
 have h1:(0:Int) < j:=hc
 exact mod_int' (by omega) (by rw [Int.fmod_eq_emod_of_nonneg i (by omega)];exact q)
theorem zaN:OpR X (binaryOp .Pow) (rI CPow fun i j=>.int (i ^ j.toNat)):=opI fun _ _ _ _ _ _ _ hc q=>pow_int_small hc.1 hc.2.1 hc.2.2 q
theorem unI {f:Value→Sem Value}{g:Int→Int}
  (rule:∀(i:Int) (t:Tok) (s:Shared) (Q:Value→Shared→Prop) (E:Value→Shared→Prop),Q (.int (g i) s.toks) {s with toks:=s.toks+1}→wpAny (model X.prog X.w) X.A (f (.int i t)) Q E s):
  UnR X f (rU fun i=>.int (g i)):=by
 intro pins s σ H x v Q I rx h
 obtain ⟨i,rfl,q⟩:=h
 obtain ⟨t,rfl⟩:=rx
 exact rule i t s _ _ ⟨.int (g i),H,I.tok _,⟨_,rfl⟩,q⟩
theorem zb6:UnR X (unaryOp .USub) (rU fun i=>.int (-i)):=unI fun _ _ _ _ _ q=>neg_int q
end
def scal:V→V→Bool
 | .non,.non=>true | .non,.int _=>true | .int _,.non=>true | .non,.bl _=>true | .bl _,.non=>true | .non,.str _=>true | .str _,.non=>true
 | .int _,.int _=>true | .bl _,.bl _=>true | .str _,.str _=>true | .byt _,.byt _=>true
 | .int _,.str _=>true | .str _,.int _=>true | .bl _,.str _=>true | .str _,.bl _=>true
 | _,_=>false
def rEq:R2:=fun x y H Q=>scal x y=true∧Q (.bl (decide (x=y))) H
def rNe:R2:=fun x y H Q=>scal x y=true∧Q (.bl (!decide (x=y))) H
theorem zhi {i j:Int}:decide (V.int i=V.int j)=(i==j):=by
 rw [Bool.eq_iff_iff]
 simp
theorem zjV {i j:Bool}:decide (V.bl i=V.bl j)=(i==j):=by
 rw [Bool.eq_iff_iff]
 simp
theorem zhm {i j:Str}:decide (V.str i=V.str j)=(i==j):=by
 rw [Bool.eq_iff_iff]
 simp
theorem zhq {i j:Array UInt8}:decide (V.byt i=V.byt j)=(i.toList==j.toList):=by
 rw [Bool.eq_iff_iff]
 cases i
 cases j
 simp
section
variable {X:Cx}{a b c:Expr}{ta tb tc:TE}{pos:Pos}
theorem zU {pins:List (Addr ×Obj)}{σ:St}{H:Hp}{s:Shared}{Q:VK}{k k':Bool}(I:Inv X pins σ H s)(q:Q (.bl k) H)(e:k=k'):EP X pins σ Q (.bool k') s:=by
 subst e
 exact ⟨.bl k,H,I,rfl,q⟩
theorem zac:OpR X (compareOp .Eq) rEq:=by
 intro pins s σ H x y v u Q I rx ry h
 obtain ⟨hs,q⟩:=h
 cases x with
 | non=>
  cases rx
  cases y with
  | non=>cases ry;exact PySem.EqNone.eq_none_none (zU I q (by simp))
  | bl j=>cases ry;exact PySem.EqNone.eq_none_bool (zU I q (by simp))
  | int j=>obtain ⟨t',rfl⟩:=ry;exact PySem.EqNone.eq_none_int (zU I q (by simp))
  | str j=>obtain ⟨t',rfl⟩:=ry;exact PySem.EqNone.eq_none_str (zU I q (by simp))
  | _=>exact absurd (show false=true from hs) Bool.false_ne_true
 | bl i=>
  cases rx
  cases y with
  | non=>cases ry;exact PySem.EqNone.eq_bool_none (zU I q (by simp))
  | bl j=>cases ry;exact eq_bool (zU I q zjV)
  | str j=>obtain ⟨t',rfl⟩:=ry;exact PySem.EqMixed.eq_bool_str (zU I q (by simp))
  | _=>exact absurd (show false=true from hs) Bool.false_ne_true
 | int i=>
  obtain ⟨t,rfl⟩:=rx
  cases y with
  | non=>cases ry;exact PySem.EqNone.eq_int_none (zU I q (by simp))
  | int j=>obtain ⟨t',rfl⟩:=ry;exact eq_int (zU I q zhi)
  | str j=>obtain ⟨t',rfl⟩:=ry;exact PySem.EqMixed.eq_int_str (zU I q (by simp))
  | _=>exact absurd (show false=true from hs) Bool.false_ne_true
 | str i=>
  obtain ⟨t,rfl⟩:=rx
  cases y with
  | non=>cases ry;exact PySem.EqNone.eq_str_none (zU I q (by simp))
  | bl j=>cases ry;exact PySem.EqMixed.eq_str_bool (zU I q (by simp))
  | int j=>obtain ⟨t',rfl⟩:=ry;exact PySem.EqMixed.eq_str_int (zU I q (by simp))
  | str j=>obtain ⟨t',rfl⟩:=ry;exact eq_str (zU I q zhm)
  | _=>exact absurd (show false=true from hs) Bool.false_ne_true
 | byt i=>
  obtain ⟨t,rfl⟩:=rx
  cases y with
  | byt j=>obtain ⟨t',rfl⟩:=ry;exact PySem.W.eq_bytes (zU I q zhq)
  | _=>exact absurd (show false=true from hs) Bool.false_ne_true
 | _=>cases y <;> exact absurd (show false=true from hs) Bool.false_ne_true
theorem zbu:OpR X (compareOp .NotEq) rNe:=by
 intro pins s σ H x y v u Q I rx ry h
 obtain ⟨hs,q⟩:=h
 cases x with
 | non=>
  cases rx
  cases y with
  | non=>cases ry;exact PySem.EqNone.ne_none_none (zU I q (by simp))
  | bl j=>cases ry;exact PySem.EqNone.ne_none_bool (zU I q (by simp))
  | int j=>obtain ⟨t',rfl⟩:=ry;exact PySem.EqNone.ne_none_int (zU I q (by simp))
  | str j=>obtain ⟨t',rfl⟩:=ry;exact PySem.EqNone.ne_none_str (zU I q (by simp))
  | _=>exact absurd (show false=true from hs) Bool.false_ne_true
 | bl i=>
  cases rx
  cases y with
  | non=>cases ry;exact PySem.EqNone.ne_bool_none (zU I q (by simp))
  | bl j=>cases ry;exact ne_bool (zU I q (congrArg not zjV))
  | str j=>obtain ⟨t',rfl⟩:=ry;exact PySem.EqMixed.ne_bool_str (zU I q (by simp))
  | _=>exact absurd (show false=true from hs) Bool.false_ne_true
 | int i=>
  obtain ⟨t,rfl⟩:=rx
  cases y with
  | non=>cases ry;exact PySem.EqNone.ne_int_none (zU I q (by simp))
  | int j=>obtain ⟨t',rfl⟩:=ry;exact ne_int (zU I q (congrArg not zhi))
  | str j=>obtain ⟨t',rfl⟩:=ry;exact PySem.EqMixed.ne_int_str (zU I q (by simp))
  | _=>exact absurd (show false=true from hs) Bool.false_ne_true
 | str i=>
  obtain ⟨t,rfl⟩:=rx
  cases y with
  | non=>cases ry;exact PySem.EqNone.ne_str_none (zU I q (by simp))
  | bl j=>cases ry;exact PySem.EqMixed.ne_str_bool (zU I q (by simp))
  | int j=>obtain ⟨t',rfl⟩:=ry;exact PySem.EqMixed.ne_str_int (zU I q (by simp))
  | str j=>obtain ⟨t',rfl⟩:=ry;exact ne_str (zU I q (congrArg not zhm))
  | _=>exact absurd (show false=true from hs) Bool.false_ne_true
 | byt i=>
  obtain ⟨t,rfl⟩:=rx
  cases y with
  | byt j=>obtain ⟨t',rfl⟩:=ry;exact PySem.W.ne_bytes (zU I q (congrArg not zhq))
  | _=>exact absurd (show false=true from hs) Bool.false_ne_true
 | _=>cases y <;> exact absurd (show false=true from hs) Bool.false_ne_true
theorem zcJ:OpR X (compareOp .Lt) (rI0 fun i j=>.bl (decide (i < j))):=opB0 fun _ _ _ _ _ _ _ q=>lt_int q
theorem zk1:OpR X (compareOp .LtE) (rI0 fun i j=>.bl (decide (i≤j))):=opB0 fun _ _ _ _ _ _ _ q=>le_int q
theorem ziD:OpR X (compareOp .Gt) (rI0 fun i j=>.bl (decide (j < i))):=opB0 fun _ _ _ _ _ _ _ q=>gt_int q
theorem ziS:OpR X (compareOp .GtE) (rI0 fun i j=>.bl (decide (j≤i))):=opB0 fun _ _ _ _ _ _ _ q=>ge_int q
theorem zeK:OpR X (compareOp .Lt) (fun x y H Q=>∃i j,x=.str i∧y=.str j∧Q (.bl (decide (i.cps.toList < j.cps.toList))) H):=by
 intro pins s σ H x y v u Q I rx ry h
 obtain ⟨i,j,rfl,rfl,q⟩:=h
 obtain ⟨t,rfl⟩:=rx
 obtain ⟨t',rfl⟩:=ry
 exact lt_str (zU I q rfl)
theorem za3:OpR X (compareOp .Is) (fun x y H Q=>y=.non∧Q (.bl (decide (x=.non))) H):=by
 intro pins s σ H x y v u Q I rx ry h
 obtain ⟨rfl,q⟩:=h
 cases ry
 refine is_none_gen (zU I q ?_)
 cases x <;> first
  | (cases rx;rfl)
  | (obtain ⟨t,rfl⟩:=rx;rfl)
theorem zdX:OpR X (compareOp .IsNot) (fun x y H Q=>y=.non∧Q (.bl (!decide (x=.non))) H):=by
 intro pins s σ H x y v u Q I rx ry h
 obtain ⟨rfl,q⟩:=h
 cases ry
 refine isnot_none_gen (zU I q ?_)
 cases x <;> first
  | (cases rx;rfl)
  | (obtain ⟨t,rfl⟩:=rx;rfl)
def isObj:HO→Bool
 | .lst _=>true
 | .ins _ _ _=>true
 | _=>false
theorem OpR.or {f:Value→Value→Sem Value}{r r':R2}(h:OpR X f r)(h':OpR X f r'):OpR X f (fun x y H Q=>r x y H Q∨r' x y H Q):=by
 intro pins s σ H x y v u Q I rx ry q
 rcases q with q | q
 ·exact h pins s σ H x y v u Q I rx ry q
 ·exact h' pins s σ H x y v u Q I rx ry q
theorem zt (b:Expr){op:CmpOp}(h:op≠ .In:=by decide)(h2:op≠ .NotIn:=by decide):behindInMarks op b=false:=by
 have e1:(op==CmpOp.In)=false:=by cases op <;> first | rfl | exact absurd rfl h
 have e2:(op==CmpOp.NotIn)=false:=by cases op <;> first | rfl | exact absurd rfl h2
 cases b <;> simp [behindInMarks,e1,e2]
theorem zQ {op:CmpOp}{r:R2}(ho:OpR X (compareOp op) r)(ha:PE X a ta)(hb:PE X b tb)(hm:behindInMarks op b=false):PE X (.Compare a [op] [b] pos) (tOp r ta tb):=by
 intro pins s σ H Q I h
 exact wpAny_Compare1 (binT ha hb I h fun v u s2 x y H2 I2 rx ry q=>ho pins s2 σ H2 x y v u Q I2 rx ry q) hm
def zmM (t:TE):TT:=fun σ H Q=>t σ H fun x H'=>∃k,x=.bl k∧Q k H'
theorem zw {op:CmpOp}{r:R2}(ho:OpR X (compareOp op) r)(ha:PE X a ta)(hb:PE X b tb)(hm:behindInMarks op b=false):PT X (.Compare a [op] [b] pos) (zmM (tOp r ta tb)):=by
 intro pins s σ H Q I h
 refine wpAny_isTrue_Compare1 (thn (ha pins s σ H _ I h) fun v s1 ⟨x,H1,I1,r1,q1⟩=>thn (hb pins s1 σ H1 _ I1 q1) fun u s2 ⟨y,H2,I2,r2,q2⟩=>
  thn (ho pins s2 σ H2 x y v u _ I2 r1 r2 q2) fun c s3 ⟨z,H3,I3,r3,k,e,q3⟩=>?_) hm
 subst e
 cases r3
 exact wpAny_truthy_bool ⟨H3,I3,q3⟩
def zlo (r r':R2)(ta tb tc:TE):TE:=fun σ H Q=>ta σ H fun x H1=>tb σ H1 fun y H2=>r x y H2 fun z H3=>∃k,z=.bl k∧
 (if k=true then tc σ H3 fun w' H4=>r' y w' H4 Q else Q (.bl false) H3)
theorem ziN {op op':CmpOp}{r r':R2}(ho:OpR X (compareOp op) r)(ho':OpR X (compareOp op') r')(ha:PE X a ta)(hb:PE X b tb)(hc:PE X c tc)
  (hm:lastMarks [op,op'] [b,c]=false:=by with_unfolding_all rfl):PE X (.Compare a [op,op'] [b,c] pos) (zlo r r' ta tb tc):=by
 intro pins s σ H Q I h
 refine Compare_chain (thn (ha pins s σ H _ I h) fun v s1 ⟨x,H1,I1,r1,q1⟩=>chain_link (thn (hb pins s1 σ H1 _ I1 q1) fun u s2 ⟨y,H2,I2,r2,q2⟩=>
  thn (ho pins s2 σ H2 x y v u _ I2 r1 r2 q2) fun d s3 ⟨z,H3,I3,r3,k,e,q3⟩=>?_)) hm
 subst e
 cases r3
 refine wpAny_truthy_bool ?_
 cases k with
 | false=>exact ite_ff ⟨.bl false,H3,I3,rfl,q3⟩
 | true=>exact ite_tt (chain_last (thn (hc pins s3 σ H3 _ I3 q3) fun w' s4 ⟨z',H4,I4,r4,q4⟩=>ho' pins s4 σ H4 y z' u w' Q I4 r2 r4 q4))
def TruV (K:PySem.W.Frag)(x:V)(H:Hp)(k:Bool):Prop:=
 match x with
 | .non=>k=false
 | .bl b=>k=b
 | .int i=>k=(i !=0)
 | .str y=>y.length≤sizeLine∧k=((y.length:Int) !=0)
 | .byt y=>y.size≤sizeLine∧k=((y.size:Int) !=0)
 | .ref p=>(∃xs,SqL K H p xs∧k= !xs.isEmpty)∨(∃xs,SqT K H p xs∧k= !xs.isEmpty)∨∃kvs,H p=some (.dK kvs)∧k= !kvs.isEmpty
 | _=>False
theorem zez:(sizeLine:Nat) < 2 ^ 63:=by rw [sizeLine_eq];decide
theorem zb0:OpR X (binaryOp .Add) (fun x y H Q=>∃i j,x=.str i∧y=.str j∧i.length+j.length≤sizeLine∧Q (.str (i++j)) H):=by
 intro pins s σ H x y v u Q I rx ry h
 obtain ⟨i,j,rfl,rfl,hz,q⟩:=h
 obtain ⟨t,rfl⟩:=rx
 obtain ⟨t',rfl⟩:=ry
 exact add_str (fun t' tk=>⟨.str (i++j),H,I.tok _,⟨_,rfl⟩,q⟩) hz
def zmf (b:Expr):Prop:=∀o i,subscripted b false o i=operate [o,i] (getItem o i)
theorem vals1 {x:V}{us:List Value}(r:Vals [x] us):∃u,us=[u]∧RelV x u:=by
 cases r with
 | cons r1 r2=>cases r2;exact ⟨_,rfl,r1⟩
theorem vals2 {x y:V}{us:List Value}(r:Vals [x,y] us):∃u w',us=[u,w']∧RelV x u∧RelV y w':=by
 cases r with
 | cons r1 r2=>
  cases r2 with
  | cons r3 r4=>cases r4;exact ⟨_,_,rfl,r1,r3⟩
theorem zhT (hc:X.calm=true):za4 X (.builtin "min") (fun xs H Q=>∃i j,xs=[.int i,.int j]∧Q (.int (if j < i then j else i)) H):=by
 intro pins s σ H xs us Q I r h
 obtain ⟨i,j,rfl,q⟩:=h
 obtain ⟨u,w',rfl,⟨t,rfl⟩,⟨t',rfl⟩⟩:=vals2 r
 refine min_two_ints (I.ok.hd hc) fun h' tk k=>⟨_,H,I.kept k,?_,q⟩
 by_cases hj:j < i
 ·rw [if_pos hj,if_pos hj];exact ⟨_,rfl⟩
 ·rw [if_neg hj,if_neg hj];exact ⟨_,rfl⟩
theorem zcM:za4 X (.type "int") (fun xs H Q=>(∃i,xs=[.int i]∧Q (.int i) H)∨∃k,xs=[.bl k]∧Q (.int (if k then 1 else 0)) H):=by
 intro pins s σ H xs us Q I r h
 rcases h with ⟨i,rfl,q⟩ | ⟨k,rfl,q⟩
 ·obtain ⟨u,rfl,t,rfl⟩:=vals1 r
  exact call_int_int ⟨.int i,H,I,⟨_,rfl⟩,q⟩
 ·obtain ⟨u,rfl,r1⟩:=vals1 r
  cases r1
  exact call_int_bool ⟨.int (if k then 1 else 0),H,I.tok _,⟨_,rfl⟩,q⟩
theorem ziE:za4 X (.builtin "ord") (fun xs H Q=>∃x,xs=[.str x]∧x.length=1∧Q (.int (x.cps.getD 0 0:Nat)) H):=by
 intro pins s σ H xs us Q I r h
 obtain ⟨x,rfl,hz,q⟩:=h
 obtain ⟨u,rfl,t,rfl⟩:=vals1 r
 exact ord_of_one hz ⟨.int _,H,I.tok _,⟨_,rfl⟩,q⟩
def LenV (K:PySem.W.Frag)(x:V)(H:Hp)(n:Nat):Prop:=
 match x with
 | .str y=>y.length≤sizeLine∧n=y.length
 | .byt y=>y.size≤sizeLine∧n=y.size
 | .ref p=>(∃xs,SqL K H p xs∧n=xs.length)∨∃xs,SqT K H p xs∧n=xs.length
 | _=>False
end
end L2
namespace L2
open PySem PySem.Spec PyProof.Rows
structure ObjM (h:Heap)(x dx C:Addr)(mA:Str→Option Value):Prop where
 obj:h.get? x=some (PySem.W.instObj C dx)
 ns:h.Ns1 dx mA
 ne:dx≠x
theorem zdD {h:Heap}{dx:Addr}{mA:Str→Option Value}(n:h.Ns1 dx mA):∃od,h.get? dx=some od∧∀name,PySem.W.lookIn name od=some (mA name):=by
 obtain ⟨o,es,ep,ho,hd,hk,_,hm⟩:=n
 refine ⟨o,ho,fun name=>?_⟩
 have e:=hm name
 unfold nsFind findBy at e
 rw [←Array.find?_toList] at e
 unfold PySem.W.lookIn
 rw [hd]
 dsimp only
 split
 ·rename_i y q
  rw [q] at e
  exact congrArg some e
 ·rename_i q
  rw [q] at e
  have a:es.toList.any (·.refKey)=false:=by
   rw [List.any_eq_false]
   intro y hy
   obtain ⟨z,t,hkey⟩:=hk y (Array.mem_toList_iff.mp hy)
   simp [DictEntry.refKey,hkey]
  have a':¬es.toList.any (·.refKey)=true:=by rw [a];exact Bool.false_ne_true
  rw [if_neg a']
  exact congrArg some e
theorem ObjM.look {h:Heap}{x dx C:Addr}{mA:Str→Option Value}(I:ObjM h x dx C mA):∃od,PySem.W.InstAt h x (PySem.W.instObj C dx) C (some od)∧∀name,PySem.W.lookIn name od=some (mA name):=
 let ⟨od,ho,hl⟩:=zdD I.ns
 ⟨od,⟨I.obj,rfl,rfl,ho⟩,hl⟩
section
variable {prog:Program}{w:World}{A:Around}{E:Value→Shared→Prop}{s:Shared}{K:PySem.W.Frag}{x dx C f:Addr}{mA:Str→Option Value}{name:Str}{v:Value}
theorem get_map {expr:Bool}{Q:Value→Shared→Prop}(X:K.In s.heap)(I:ObjM s.heap x dx C mA)(hg:PySem.W.plainGet K C name=true)(hh:PySem.W.hasDictIn K C=true)
  (ha:PySem.W.findIn K (.ref C) name=some none) (hv:mA name=some v) (hv':PySem.W.handedIn v=true) (h:Q v {s with toks:=s.toks+1}):
  wpAny (model prog w) A (getAttr (.ref x) name expr) Q E s:=by
 obtain ⟨od,J,hl⟩:=I.look
 exact PySem.W.get_value X J (PySem.W.plainGet_of hg).1 (PySem.W.findObj_own hh ha rfl (by rw [hl,hv])) hv' h
theorem ziH {pl:Sem Bool}{Q:Value ×List Value→Shared→Prop}(X:K.In s.heap)(I:ObjM s.heap x dx C mA)(hg:PySem.W.plainGet K C name=true)
  (hf:PySem.W.findIn K (.ref C) name=some (some (.ref f))) (ht:PySem.W.isFn K (.ref f)=true) (hv:mA name=none) (h:Q (.ref f,[.ref x]) s):
  wpAny (model prog w) A (getMethod (.ref x) name pl) Q E s:=by
 obtain ⟨od,J,hl⟩:=I.look
 exact PySem.W.method_fn X J (PySem.W.plainGet_of hg).1 (PySem.W.plainGet_of hg).2 hf (beq_iff_eq.mp ht) (by show (PySem.W.lookIn name od).map (·.isSome)=some false;rw [hl,hv];rfl) h
theorem zki {ns:List Str}{Q:Unit→Shared→Prop}(X:K.In s.heap)(I:ObjM s.heap x dx C mA)
  (hs:PySem.W.findIn K (.ref C) "__setattr__" =some (some (.builtin "object.__setattr__"))) (hp:PySem.W.plainOver K C=true) (ht:PySem.W.takerIn K C name=some none) (hh:PySem.W.hasDictIn K C=true)
  (hw:PySem.Within mA ns) (hsz:ns.length≤sizeLine)
  (h:∀h',ObjM h' x dx C (fun y=>if y=name then some v else mA y)→Heap.SameBut dx s.heap h'→Q () {s with heap:=h',toks:=s.toks+2}):
  wpAny (model prog w) A (setAttr (.ref x) name v) Q E s:=by
 obtain ⟨od,J,hl⟩:=I.look
 refine PySem.W.set_plain X J hs (PySem.W.osa_open (s:={s with toks:=s.toks+1}) (r:=none) X J hp ht fun b=>?_)
 obtain ⟨cd,hc,hd'⟩:=PySem.W.any_some hh
 have hx:s.heap.get? x=some ⟨.ref C,some dx,.plain, #[]⟩:=I.obj
 refine wpAny_bind (wpAny_pure (wpAny_bind (wpAny_bind (wpAny_loadPart hx (wpAny_bind (PySem.W.Looks.here (s:={s with toks:=s.toks+1}) (PySem.W.looks_clsIn X hc) ?_))))))
 rw [hd']
 refine wpAny_pure (a:=some dx) (wpAny_bind (wpAny_pure (wpAny_bind ?_)))
 refine wpAny_nsSet1 (s:={s with toks:=s.toks+1}) I.ns fun h' hn2 hs2=>?_
 obtain ⟨oD,esD,epD,hoD,hdD,hcD⟩:=hn2.count (PySem.Within.cons name v hw)
 refine wpAny_bind (wpAny_lookBehind hoD (by rw [hdD];exact pastItsLine_dict (Nat.le_trans hcD (by rw [List.length_cons];omega))) ?_)
 exact wpAny_pure (h _ ⟨(hs2.2 _ (Ne.symm I.ne)).trans I.obj,hn2,I.ne⟩ hs2)
theorem zjf {R:Result→Shared→Prop}{vs:List Value}{kw:List (Str ×Value)}(X:K.In s.heap)(hm:PySem.W.makesIn K C=true)
  (hi:PySem.W.findIn K (.ref C) "__init__" =some (some (.ref f))) (hf:PySem.W.typeIn K (.ref f)=some (.type "function"))
  (h:codeAny (model prog w) (A.under (.builtin "type.__call__" ⟨.ref C::vs,kw⟩)) (.call (.ref f) ⟨.ref (s.heap.objs.size+1)::vs,kw⟩) (PySem.W.InitBack (s.heap.objs.size+1) R)
   {s with heap:=(s.heap.push PySem.W.emptyDict).push (PySem.W.instObj C s.heap.objs.size)}):
  codeAny (model prog w) A (.call (.ref C) ⟨vs,kw⟩) R s:=by
 obtain ⟨hh,g,d,t,os⟩:=s
 exact PySem.W.make_core (PySem.W.makes_of X hm) (PySem.W.looks_findIn X hi) (fun self=>PySem.W.bind_fn X self hf) (.inl rfl) h
end
def putF (f:Str)(v:V):List (Str ×V)→List (Str ×V)
 | []=>[(f,v)]
 | (g,x)::r=>if g=f then (g,v)::r else (g,x)::putF f v r
theorem zcw (f g:Str)(v:V):∀fs:List (Str ×V),(putF f v fs).lookup g=if g=f then some v else fs.lookup g
 | []=>by
  show List.lookup g [(f,v)]=_
  by_cases h:g=f
  ·have hb:(g==f)=true:=beq_iff_eq.mpr h
   simp only [List.lookup,hb,if_pos h]
  ·have hb:(g==f)=false:=beq_eq_false_iff_ne.mpr h
   simp only [List.lookup,hb,if_neg h]
 | (k,x)::r=>by
  have ih:=zcw f g v r
  rw [show putF f v ((k,x)::r)=(if k=f then (k,v)::r else (k,x)::putF f v r) from rfl]
  by_cases hk:k=f
  ·rw [if_pos hk]
   by_cases h:g=k
   ·have hb:(g==k)=true:=beq_iff_eq.mpr h
    simp only [List.lookup,hb,if_pos (h.trans hk)]
   ·have hb:(g==k)=false:=beq_eq_false_iff_ne.mpr h
    simp only [List.lookup,hb,if_neg (fun e:g=f=>h (e.trans hk.symm))]
  ·rw [if_neg hk]
   by_cases h:g=k
   ·have hb:(g==k)=true:=beq_iff_eq.mpr h
    simp only [List.lookup,hb,if_neg (fun e:g=f=>hk (h.symm.trans e))]
   ·have hb:(g==k)=false:=beq_eq_false_iff_ne.mpr h
    simp only [List.lookup,hb]
    exact ih
theorem zbU (f:Str)(v:V):∀fs:List (Str ×V),f∈(putF f v fs).map (·.1)∧∀g,g∈fs.map (·.1)→g∈(putF f v fs).map (·.1)
 | []=>⟨by simp [putF],fun g h=>by simp at h⟩
 | (k,x)::r=>by
  obtain ⟨i1,i2⟩:=zbU f v r
  rw [show putF f v ((k,x)::r)=(if k=f then (k,v)::r else (k,x)::putF f v r) from rfl]
  by_cases hk:k=f
  ·rw [if_pos hk]
   subst hk
   exact ⟨by simp,fun g h=>by simpa using h⟩
  ·rw [if_neg hk]
   refine ⟨?_,fun g h=>?_⟩
   ·rw [List.map_cons]
    exact List.mem_cons_of_mem _ i1
   ·rw [List.map_cons] at h ⊢
    rcases List.mem_cons.mp h with e | e
    ·exact List.mem_cons.mpr (.inl e)
    ·exact List.mem_cons_of_mem _ (i2 g e)
theorem zdN (f:Str)(v:V):∀fs:List (Str ×V),(putF f v fs).length≤fs.length+1
 | []=>by simp [putF]
 | (k,x)::r=>by
  have ih:=zdN f v r
  rw [show putF f v ((k,x)::r)=(if k=f then (k,v)::r else (k,x)::putF f v r) from rfl]
  by_cases hk:k=f
  ·rw [if_pos hk,List.length_cons,List.length_cons];omega
  ·rw [if_neg hk,List.length_cons,List.length_cons];omega
theorem RelO.some_of {v:V}{o:Option Value}(r:RelO (some v) o):∃u,o=some u∧RelV v u:=by
 cases o with
 | none=>exact (show False from r).elim
 | some u=>exact ⟨u,rfl,r⟩
theorem RelO.none_of {o:Option Value}(r:RelO none o):o=none:=by
 cases o with
 | none=>rfl
 | some u=>exact (show False from r).elim
theorem zeG {v:V}{u:Value}(r:RelV v u):PySem.W.handedIn u=true:=by
 cases v with
 | non=>cases (show u=Value.none from r);rfl
 | bl b=>cases (show u=Value.bool b from r);rfl
 | int i=>obtain ⟨t,e⟩:=(show∃t,u=Value.int i t from r);cases e;rfl
 | str x=>obtain ⟨t,e⟩:=(show∃t,u=Value.str x t from r);cases e;rfl
 | byt b=>obtain ⟨t,e⟩:=(show∃t,u=Value.bytes b t from r);cases e;rfl
 | flt b=>obtain ⟨t,e⟩:=(show∃t,u=Value.float b t from r);cases e;rfl
 | ref a=>cases (show u=Value.ref a from r);rfl
 | ty n=>cases (show u=Value.type n from r);rfl
section
variable {P:Program}{w:World}{H H':Hp}{h h':Heap}{a C dx:Addr}{fs fs':List (Str ×V)}
theorem zc9 (hok:HOk P w H h)(e:H a=some (.ins C dx fs)):∃mA,ObjM h a dx C mA∧(∀f,RelO (fs.lookup f) (mA f))∧PySem.Within mA (fs.map (·.1))∧fs.length≤1000∧H dx=some (.own a):=by
 obtain ⟨d,z,ne,ob,mA,n,r,q⟩:=(show z6 P w H h a (.ins C dx fs) from hok a _ e)
 exact ⟨mA,⟨ob,n,ne⟩,r,q,z,d⟩
end
structure Cls (K:PySem.W.Frag)(C:Addr):Prop where
 pg:PySem.W.plainGet K C Str.empty=true
 hd:PySem.W.hasDictIn K C=true
 po:PySem.W.plainOver K C=true
 sa:PySem.W.findIn K (.ref C) "__setattr__" =some (some (.builtin "object.__setattr__"))
theorem Cls.get {K:PySem.W.Frag}{C:Addr}(c:Cls K C)(f:Str):PySem.W.plainGet K C f=true:=c.pg
def zaf (K:PySem.W.Frag)(C:Addr)(f:Str):Prop:=PySem.W.findIn K (.ref C) f=some none
theorem zaf.taker {K:PySem.W.Frag}{C:Addr}{f:Str}(n:zaf K C f):PySem.W.takerIn K C f=some none:=by
 unfold PySem.W.takerIn
 rw [show PySem.W.findIn K (.ref C) f=some none from n]
 rfl
structure Con (K:PySem.W.Frag)(C:Addr)(f:Str)(v:V)(u:Value):Prop where
 at_:PySem.W.findIn K (.ref C) f=some (some u)
 rel:RelV v u
 get:PySem.W.specialIn K u "__get__" =some none
 cp:PySem.W.copiedNames.contains f=false
structure Meth (K:PySem.W.Frag)(C:Addr)(m:Str)(f:Addr):Prop where
 at_:PySem.W.findIn K (.ref C) m=some (some (.ref f))
 fn:PySem.W.isFn K (.ref f)=true
 kp:PySem.W.keepIn K (.ref f)=true
section
variable {X:Cx}{pins:List (Addr ×Obj)}{σ:St}{H:Hp}{s:Shared}{a C dx:Addr}{fs:List (Str ×V)}{f:Str}{v:V}{A:Around}{E:Value→Shared→Prop}
theorem zgx {b:Bool}{Q:Value→Shared→Prop}(I:Inv X pins σ H s)(e:H a=some (.ins C dx fs))(c:Cls X.K C)(n:zaf X.K C f)(l:fs.lookup f=some v)
  (h:∀u s',Inv X pins σ H s'→RelV v u→Q u s'):wpAny (model X.prog X.w) A (getAttr (.ref a) f b) Q E s:=by
 obtain ⟨mA,O,r,_,_,_⟩:=zc9 I.hok e
 obtain ⟨u,hu,ru⟩:=RelO.some_of (v:=v) (o:=mA f) (by rw [←l];exact r f)
 exact get_map I.kIn O (c.get f) c.hd n hu (zeG ru) (h u _ (I.tok _) ru)
theorem zd9 {m:Str}{g:Addr}{pl:Sem Bool}{Q:Value ×List Value→Shared→Prop}(I:Inv X pins σ H s)(e:H a=some (.ins C dx fs))(c:Cls X.K C)(k:Meth X.K C m g)(l:fs.lookup m=none)
  (h:Q (.ref g,[.ref a]) s):wpAny (model X.prog X.w) A (getMethod (.ref a) m pl) Q E s:=by
 obtain ⟨mA,O,r,_,_,_⟩:=zc9 I.hok e
 have hn:mA m=none:=RelO.none_of (by rw [←l];exact r m)
 exact ziH I.kIn O (c.get m) k.at_ k.fn hn h
theorem zgs {y:V}{u:Value}{Q:Unit→Shared→Prop}(I:Inv X pins σ H s)(e:H a=some (.ins C dx fs))(c:Cls X.K C)(n:zaf X.K C f)(hl:fs.length < 1000)(ry:RelV y u)
  (h:∀s',Inv X pins σ (upd H a (.ins C dx (putF f y fs))) s'→Q () s'):wpAny (model X.prog X.w) A (setAttr (.ref a) f u) Q E s:=by
 obtain ⟨mA,O,r,wi,_,ho⟩:=zc9 I.hok e
 have hz:(fs.map (·.1)).length≤sizeLine:=by rw [List.length_map,sizeLine_eq];omega
 refine zki I.kIn O c.sa c.po n.taker c.hd wi hz fun h' O' sb=>h _ ?_
 have hd:∃o,h'.get? dx=some o:=let ⟨o,_,_,e',_⟩:=O'.ns;⟨o,e'⟩
 refine I.write (x:=a) (e:=dx) (by rw [e];exact True.intro) (.inr ho) (fun b q hb z=>(sb.2 b hb).trans z) hd ?_
 refine ⟨by rw [zq O.ne];exact ho,?_,O.ne,O'.obj,_,O'.ns,fun g=>?_,fun g hg=>?_⟩
 ·have:=zdN f y fs;omega
 ·show RelO ((putF f y fs).lookup g) (if g=f then some u else mA g)
  rw [zcw]
  by_cases q:g=f
  ·rw [if_pos q,if_pos q];exact ry
  ·rw [if_neg q,if_neg q];exact r g
 ·by_cases q:g=f
  ·rw [q];exact (zbU f y fs).1
  ·refine (zbU f y fs).2 g (wi g fun z=>hg ?_)
   show (if g=f then some u else mA g)=none
   rw [if_neg q];exact z
theorem Inv.made (I:Inv X pins σ H s):Inv X pins σ (upd (upd H s.heap.objs.size (.own (s.heap.objs.size+1))) (s.heap.objs.size+1) (.ins C s.heap.objs.size []))
  {s with heap:=(s.heap.push PySem.W.emptyDict).push (PySem.W.instObj C s.heap.objs.size)}:=by
 have e1:(s.heap.push PySem.W.emptyDict).get? s.heap.objs.size=some PySem.W.emptyDict:=Heap.get?_push_size s.heap rfl
 have e2:((s.heap.push PySem.W.emptyDict).push (PySem.W.instObj C s.heap.objs.size)).get? (s.heap.objs.size+1)=some (PySem.W.instObj C s.heap.objs.size):=by
  have:=Heap.get?_push_size (s.heap.push PySem.W.emptyDict) (o:=PySem.W.instObj C s.heap.objs.size) rfl
  rwa [Heap.size_push] at this
 have e3:(s.heap.push PySem.W.emptyDict).Ns s.heap.objs.size (fun _=>none):=⟨PySem.W.emptyDict, #[],_,e1,rfl,(fun e he=>absurd he (by simp)),fun _=>rfl⟩
 have I1:=I.laid (a:=s.heap.objs.size) (o:=.own (s.heap.objs.size+1)) (h':=s.heap.push PySem.W.emptyDict) (t':=s.toks) (fun b u q=>Heap.get?_push_of_some _ q) (Nat.le_refl _) ⟨_,e1⟩
 refine I1.laid (a:=s.heap.objs.size+1) (o:=.ins C s.heap.objs.size []) (t':=s.toks) (fun b u q=>Heap.get?_push_of_some _ q) (Nat.le_of_eq (Heap.size_push _ _)) ?_
 have ne:s.heap.objs.size≠s.heap.objs.size+1:=Nat.ne_of_lt (Nat.lt_succ_self _)
 refine ⟨by rw [zq ne,zf],Nat.zero_le _,ne,e2,fun _=>none,(Heap.Ns1.of_empty e3).at fun o q=>Heap.get?_push_of_some _ q,fun _=>True.intro,fun y hy=>absurd rfl hy⟩
theorem zhr {prog:Program}{w:World}{env:Env}{e:Expr}{f:Str}{pos:Pos}{s:Shared}{Q:Value→Shared→Prop}(hb:attributeBase e f env (eval e env)=eval e env)
  (h:wpAny (model prog w) A (eval e env) (fun o s₁=>wpAny (model prog w) A (getAttr o f true) Q E s₁) E s):wpAny (model prog w) A (eval (.Attribute e f pos) env) Q E s:=
 Attribute_any_ h (by rw [arm_eval_Attribute,hb])
end
def tFld (K:PySem.W.Frag)(ta:TE)(f:Str):TE:=fun σ H Q=>ta σ H fun x H1=>∃a C dx fs v,x=.ref a∧H1 a=some (.ins C dx fs)∧Cls K C∧zaf K C f∧fs.lookup f=some v∧Q v H1
def tCon (K:PySem.W.Frag)(ta:TE)(f:Str):TE:=fun σ H Q=>ta σ H fun x H1=>∃a C dx fs v u,x=.ref a∧H1 a=some (.ins C dx fs)∧Cls K C∧Con K C f v u∧fs.lookup f=none∧Q v H1
def sFld (K:PySem.W.Frag)(ta tv:TE)(f:Str):TS:=fun D σ H=>tv σ H fun y H1=>ta σ H1 fun x H2=>∃a C dx fs,x=.ref a∧H2 a=some (.ins C dx fs)∧Cls K C∧zaf K C f∧fs.length < 1000∧
 D.nx σ (upd H2 a (.ins C dx (putF f y fs)))
def InOp (X:Cx)(op:Operator)(rd:V→V→Hp→VK→Prop):Prop:=
 ∀(pins:List (Addr ×Obj)) (s:Shared) (σ:St) (H:Hp) (x y:V) (u v:Value) (Q:VK),Inv X pins σ H s→RelV x u→RelV y v→rd x y H Q→wpAny (model X.prog X.w) X.A (inplaceOp op u v) (EP X pins σ Q) X.xe s
def zmP (K:PySem.W.Frag)(ta tv:TE)(rd:V→V→Hp→VK→Prop)(f:Str):TS:=fun D σ H=>ta σ H fun x H1=>∃a C dx fs v,x=.ref a∧H1 a=some (.ins C dx fs)∧Cls K C∧zaf K C f∧fs.lookup f=some v∧
 tv σ H1 fun y H2=>rd v y H2 fun z H3=>∃dx' fs',H3 a=some (.ins C dx' fs')∧fs'.length < 1000∧D.nx σ (upd H3 a (.ins C dx' (putF f z fs')))
section
variable {X:Cx}{o e value:Expr}{f:Str}{pos pos' tpos:Pos}{ta tv:TE}
theorem zdp (he:PE X e ta)(hb:attributeBase e f X.env (eval e X.env)=eval e X.env):PE X (.Attribute e f pos) (tFld X.K ta f):=by
 intro pins s σ H Q I h
 refine zhr hb (thn (he pins s σ H _ I h) fun u s1 ⟨x,H1,I1,rx,a,C,dx,fs,v,ex,ea,c,n,l,q⟩=>?_)
 subst ex
 obtain rfl:u=Value.ref a:=rx
 exact zgx I1 ea c n l fun u' s2 I2 ru=>⟨v,H1,I2,ru,q⟩
theorem zl5 (ha:PE X o ta)(hv:PE X value tv)(hs:swapsWith value (some (.Attribute o f pos')) pos.line X.env=pure false):PS X (.Assign [.Attribute o f pos'] value pos) (sFld X.K ta tv f):=by
 intro pins s σ H D I h
 refine plainObj_wpAny_Assign_Attribute (thn (hv pins s σ H _ I h) fun u s1 ⟨y,H1,I1,ry,q⟩=>thn (ha pins s1 σ H1 _ I1 q) fun ov s2 ⟨x,H2,I2,rx,a,C,dx,fs,ex,ea,c,n,l,q2⟩=>?_) hs
 subst ex
 obtain rfl:ov=Value.ref a:=rx
 exact zgs I2 ea c n l ry fun s3 I3=>⟨σ,_,I3,q2⟩
def rAdd:V→V→Hp→VK→Prop:=fun x y H Q=>∃i j,x=.int i∧y=.int j∧Q (.int (i+j)) H
def rSub:V→V→Hp→VK→Prop:=fun x y H Q=>∃i j,x=.int i∧y=.int j∧Q (.int (i - j)) H
theorem zkU {pl:Sem Bool}{m:Str}{apos:Pos}{args:List Expr}{pins:List (Addr ×Obj)}{s:Shared}{σ:St}{H:Hp}{Q:Value→Shared→Prop}{te:TE}(he:PE X e te)(I:Inv X pins σ H s)
  (h:te σ H fun x H1=>∃a C dx fs g,x=.ref a∧H1 a=some (.ins C dx fs)∧Cls X.K C∧Meth X.K C m g∧fs.lookup m=none∧
   ∀s1,Inv X pins σ H1 s1→wpAny (model X.prog X.w) X.A (callWith pos (.ref g) [.ref a] (backTo pos (starEach args X.env)) (backToKw pos (keywordEach [] X.env))) Q X.xe s1)
  (ht:eval (.Call (.Attribute e m apos) args [] pos) X.env=(do
   let ov←eval e X.env
   standAt apos.atName
   let (f,first) ←holding [ov] (getMethod ov m pl)
   callWith pos f first (backTo pos (starEach args X.env)) (backToKw pos (keywordEach [] X.env)))):
  wpAny (model X.prog X.w) X.A (eval (.Call (.Attribute e m apos) args [] pos) X.env) Q X.xe s:=by
 refine PySem.W.methodCall_KW (pl:=pl) (thn (he pins s σ H _ I h) fun u s1 ⟨x,H1,I1,rx,a,C,dx,fs,g,ex,ea,c,k,l,q⟩=>?_) ht
 subst ex
 obtain rfl:u=Value.ref a:=rx
 exact zd9 I1 ea c k l (q s1 I1)
end
section
variable {X:Cx}{pins:List (Addr ×Obj)}{σ:St}{H:Hp}{s:Shared}{A:Around}{E:Value→Shared→Prop}{Q:Value→Shared→Prop}{c:Value}{b:Bool}
inductive TyOf (K:PySem.W.Frag) (H:Hp):V→Value→Prop where
 | non:TyOf K H .non (.type "NoneType")
 | bl (x:Bool):TyOf K H (.bl x) (.type "bool")
 | int (i:Int):TyOf K H (.int i) (.type "int")
 | str (x:Str):TyOf K H (.str x) (.type "str")
 | flt (x:UInt64):TyOf K H (.flt x) (.type "float")
 | lst {a:Addr} {xs:List V} (e:H a=some (.lst xs)):TyOf K H (.ref a) (.type "list")
 | frz {a:Addr} {o:Obj} {xs:List V} (e:H a=some (.frz o (.lst xs))):TyOf K H (.ref a) (.type "list")
 | tup {a:Addr} {xs:List V} (e:H a=some (.tup xs)):TyOf K H (.ref a) (.type "tuple")
 | dK {a:Addr} {kvs:List (Key ×V)} (e:H a=some (.dK kvs)):TyOf K H (.ref a) (.type "dict")
 | dT {a:Addr} {kvs:List (List Key ×V)} (e:H a=some (.dT kvs)):TyOf K H (.ref a) (.type "dict")
 | ins {a C dx:Addr} {fs:List (Str ×V)} (e:H a=some (.ins C dx fs)) (cl:Cls K C) (ha:PySem.W.findIn K (.ref C) "__class__" =some (some (.builtin "object.__class__")))
   (hn:PySem.W.specialIn K (.builtin "object.__class__") "__get__" =some (some (.builtin "getset_descriptor.__get__"))) (htk:PySem.W.takesIn K (.builtin "object.__class__")=some true)
   (hm:PySem.W.mroIn K C (.type "object")=some true):TyOf K H (.ref a) (.ref C)
theorem zhE {x:V}{u t:Value}(I:Inv X pins σ H s)(rx:RelV x u)(ty:TyOf X.K H x t)(e:PySem.W.kitOne X.K t c=some b)(h:∀tk,Q (.bool b) {s with toks:=tk}):
  wpAny (model X.prog X.w) A (call (.builtin "isinstance") [u,c]) Q E s:=by
 cases ty with
 | non=>cases (show u=Value.none from rx);exact PySem.W.kia_one PySem.W.kitx_none I.kIn True.intro e (fun z=>nomatch z) h
 | bl y=>cases (show u=Value.bool y from rx);exact PySem.W.kia_one PySem.W.kitx_bool I.kIn True.intro e (fun z=>nomatch z) h
 | int i=>obtain ⟨t,q⟩:=(show∃t,u=Value.int i t from rx);cases q;exact PySem.W.kia_one PySem.W.kitx_int I.kIn True.intro e (fun z=>nomatch z) h
 | str y=>obtain ⟨t,q⟩:=(show∃t,u=Value.str y t from rx);cases q;exact PySem.W.kia_one PySem.W.kitx_str I.kIn True.intro e (fun z=>nomatch z) h
 | flt y=>obtain ⟨t,q⟩:=(show∃t,u=Value.float y t from rx);cases q;exact PySem.W.kia_one PySem.W.kitx_float I.kIn True.intro e (fun z=>nomatch z) h
 | @lst a xs ea=>
  cases (show u=Value.ref a from rx)
  obtain ⟨_,_,n,_,h1⟩:=(show z6 X.prog X.w H s.heap a (.lst xs) from I.hok a _ ea)
  exact PySem.W.kia_one PySem.W.kitx_list I.kIn ⟨_,h1,rfl⟩ e (fun z=>nomatch z) h
 | @frz a ob xs ea=>
  cases (show u=Value.ref a from rx)
  obtain ⟨_,_,_,n,_,h1⟩:=(show z6 X.prog X.w H s.heap a (.frz ob (.lst xs)) from I.hok a _ ea)
  exact PySem.W.kia_one PySem.W.kitx_list I.kIn ⟨_,h1,rfl⟩ e (fun z=>nomatch z) h
 | @tup a xs ea=>
  cases (show u=Value.ref a from rx)
  obtain ⟨_,_,_,p⟩:=(show z6 X.prog X.w H s.heap a (.tup xs) from I.hok a _ ea)
  obtain ⟨o,h1,h2,_⟩:=p
  exact PySem.W.kia_one PySem.W.kitx_tuple I.kIn ⟨o,h1,h2⟩ e (fun z=>nomatch z) h
 | @dK a kvs ea=>
  cases (show u=Value.ref a from rx)
  obtain ⟨_,_,vs,_,p⟩:=(show z6 X.prog X.w H s.heap a (.dK kvs) from I.hok a _ ea)
  obtain ⟨o,es,ep,h1,h2,_⟩:=p
  exact PySem.W.kia_one PySem.W.kitx_dict I.kIn ⟨o,h1,h2.1⟩ e (fun z=>nomatch z) h
 | @dT a kvs ea=>
  cases (show u=Value.ref a from rx)
  obtain ⟨_,_,xs,_,o,es,ep,h1,h2,_⟩:=(show z6 X.prog X.w H s.heap a (.dT kvs) from I.hok a _ ea)
  exact PySem.W.kia_one PySem.W.kitx_dict I.kIn ⟨o,h1,h2.1⟩ e (fun z=>nomatch z) h
 | @ins a C dx fs ea cl ha hn htk hm=>
  cases (show u=Value.ref a from rx)
  obtain ⟨mA,O,_⟩:=zc9 I.hok ea
  obtain ⟨od,J,_⟩:=O.look
  exact PySem.W.kia_one (PySem.W.kitx_own (cl.get _) cl.hd ha hn htk hm) I.kIn J e (fun z=>nomatch z) h
end
end L2
namespace L2
open PySem PySem.Spec PyProof.Rows
structure Room (k:Nat)(A:Around):Prop where
 hd:A.handled=none
 dp:A.depth+3 * k+5 < recursionLimit
 un:A.units+16 * k+200 < cLine
theorem Room.mono {j k:Nat}{A:Around}(r:Room k A)(h:j≤k):Room j A:=⟨r.hd,by have:=r.dp;omega,by have:=r.un;omega⟩
theorem Room.deeper {k:Nat}{A:Around}(r:Room (k+1) A)(env:Env):Room k (A.deeper env):=
 ⟨r.hd,by have:=r.dp;show A.depth+1+3 * k+5 < _;omega,by have:=r.un;show A.units+3+16 * k+200 < _;omega⟩
theorem Room.in1 {k:Nat}{A:Around}(r:Room (k+1) A):Room k A.in1:=
 ⟨r.hd,by have:=r.dp;show A.depth+3 * k+5 < _;omega,by have:=r.un;show A.units+1+16 * k+200 < _;omega⟩
theorem zgT {A:Around}{C:Addr}{us:List Value}{kw:List (Str ×Value)}:(A.under (.builtin "type.__call__" ⟨.ref C::us,kw⟩)).depth=A.depth+1:=by
 first | rfl | simp [Around.under,Code.weight,Code.isCreation,Code.isGuard,Code.isCaller,Code.frames,Code.isFrame,guardIds]
theorem zgJ {A:Around}{C:Addr}{us:List Value}{kw:List (Str ×Value)}:(A.under (.builtin "type.__call__" ⟨.ref C::us,kw⟩)).units=A.units+1:=by
 first | rfl | simp [Around.under,Code.cUnits,Code.frames,Code.isFrame]
theorem Room.make {k:Nat}{A:Around}(r:Room (k+1) A)(C:Addr)(us:List Value)(kw:List (Str ×Value)):Room k (A.under (.builtin "type.__call__" ⟨.ref C::us,kw⟩)):=
 ⟨r.hd,by have:=r.dp;rw [zgT];omega,by have:=r.un;rw [zgJ];omega⟩
theorem Room.depth {k:Nat}{A:Around}(r:Room k A):A.depth < recursionLimit:=by have:=r.dp;omega
theorem Room.units {k:Nat}{A:Around}(r:Room k A):A.units+64 < cLine:=by have:=r.un;omega
def tNil:TA:=fun _ H Q=>Q [] H
def zmN (ta:TE)(tr:TA):TA:=fun σ H Q=>ta σ H fun x H1=>tr σ H1 fun xs H2=>Q (x::xs) H2
section
variable {X:Cx}{e:Expr}{es:List Expr}{te:TE}{t:TA}{pos:Pos}
theorem zc:PA X [] tNil:=fun _ _ _ _ H Q I h=>Calls.spliced_nil ⟨[],H,I,.nil,h⟩
theorem za (ha:PE X e te)(hr:PA X es t)(hs:starEach (e::es) X.env=(false,eval e X.env)::starEach es X.env:=by rfl):PA X (e::es) (zmN te t):=by
 intro pos pins s σ H Q I h
 rw [hs]
 show wpAny _ _ (spliced ((false,eval e X.env)::backTo pos (starEach es X.env))) _ _ s
 refine Calls.spliced_cons (thn (ha pins s σ H _ I h) fun u s1 ⟨x,H1,I1,r1,q1⟩=>?_)
 exact thn (hr pos pins s1 σ H1 _ I1 q1) fun us s2 ⟨xs,H2,I2,r2,q2⟩=>⟨x::xs,H2,I2,.cons r1 r2,q2⟩
def tTup (t:TA):TE:=fun σ H Q=>t σ H fun xs H1=>xs.length≤sizeLine∧∀p,H1 p=none→Q (.ref p) (upd H1 p (.tup xs))
def tLst (t:TA):TE:=fun σ H Q=>t σ H fun xs H1=>xs.length≤sizeLine∧∀p,H1 p=none→Q (.ref p) (upd H1 p (.lst xs))
theorem zJ {x1}(h:PA X es t):PE X (.Tuple es x1 pos) (tTup t):=by
 intro pins s σ H Q I hq
 refine wpAny_Tuple_spliced (thn (h pos pins s σ H _ I hq) fun us s1 ⟨xs,H1,I1,r,z,q⟩=>⟨by rw [←r.length];exact z,?_⟩)
 have hf:H1 s1.heap.objs.size=none:=I1.hok.fresh (Nat.le_refl _)
 refine ⟨.ref s1.heap.objs.size,upd H1 s1.heap.objs.size (.tup xs),I1.laid (t':=s1.toks) (fun b u e=>Heap.get?_push_of_some _ e) (Nat.le_refl _) ?_,rfl,q _ hf⟩
 exact ⟨z,us,r,⟨_,Heap.get?_push_size _ rfl,rfl,_,rfl⟩⟩
theorem zM (h:PA X es t):PE X (.List es pos) (tLst t):=by
 intro pins s σ H Q I hq
 refine wpAny_List_spliced (thn (h pos pins s σ H _ I hq) fun us s1 ⟨xs,H1,I1,r,z,q⟩=>⟨by rw [←r.length];exact z,?_⟩)
 have hf:H1 s1.heap.objs.size=none:=I1.hok.fresh (Nat.le_refl _)
 refine ⟨.ref s1.heap.objs.size,upd H1 s1.heap.objs.size (.lst xs),I1.laid (t':=s1.toks) (fun b u e=>Heap.get?_push_of_some _ e) (Nat.le_refl _) ?_,rfl,q _ hf⟩
 exact ⟨z,us,0,r,Heap.get?_push_size _ rfl⟩
end
abbrev Sp:=List V→Hp→VK→XK→Prop
abbrev CXT:=List Env→Hp→Shared→XK→Value→Shared→Prop
structure Env0 (P:Program)(w:World)(K:PySem.W.Frag)(mg:Str→Option Value)(base:Heap)(A:Around)(outer:List Env)(s:Shared)(H:Hp):Prop where
 frames:A.frames=some outer
 mod:Mod K mg base
 bs:∀b o,base.get? b=some o→s.heap.get? b=some o∧H b=none
 bsz:base.objs.size≤s.heap.objs.size
 funs:s.heap.FunFrames base outer
 frf:∀b∈frs outer,H b=none
 hok:HOk P w H s.heap
 bare:AllBare s.gens
def CE (outer:List Env)(P:Program)(w:World)(H:Hp)(s:Shared)(Q:VK)(u:Value)(s':Shared):Prop:=
 ∃v H',s'.os=s.os∧AllBare s'.gens∧Un (frs outer) [] H H' s.heap s'.heap∧HOk P w H' s'.heap∧RelV v u∧Q v H'
def CR (CX:CXT)(outer:List Env)(P:Program)(w:World)(H:Hp)(s:Shared)(Q:VK)(E:XK)(r:Result)(s':Shared):Prop:=
 match r with
 | .ok (.ret u)=>CE outer P w H s Q u s'
 | .ok _=>False
 | .error e=>CX outer H s E e s'
structure FnOk (P:Program)(w:World)(K:PySem.W.Frag)(mg:Str→Option Value)(base:Heap)(CX:CXT)(k:Nat)(f:Addr)(fd:FuncData)(ps:List Str)(sp:Sp):Prop where
 len:∀vs H Q E,sp vs H Q E→vs.length=ps.length
 run:∀(A:Around) (outer:List Env) (s:Shared) (H:Hp) (args:Args) (us:List Value) (vs:List V) (Q:VK) (E:XK),Room k A→Env0 P w K mg base A outer s H→BindsTo s fd args (ps.zip us)→Vals vs us→sp vs H Q E→
  codeAny (model P w) A (.call (.ref f) args) (CR CX outer P w H s Q E) s
theorem FnOk.mono {P:Program}{w:World}{K:PySem.W.Frag}{mg:Str→Option Value}{base:Heap}{CX:CXT}{j k:Nat}{f:Addr}{fd:FuncData}{ps:List Str}{sp:Sp}(F:FnOk P w K mg base CX j f fd ps sp)(h:j≤k):
  FnOk P w K mg base CX k f fd ps sp:=⟨F.len,fun A outer s H args us vs Q E hr=>F.run A outer s H args us vs Q E (hr.mono h)⟩
theorem FnOk.imp {P:Program}{w:World}{K:PySem.W.Frag}{mg:Str→Option Value}{base:Heap}{CX:CXT}{k:Nat}{f:Addr}{fd:FuncData}{ps:List Str}{sp sp':Sp}(F:FnOk P w K mg base CX k f fd ps sp)
  (h:∀vs H Q E,sp' vs H Q E→sp vs H Q E):FnOk P w K mg base CX k f fd ps sp':=
 ⟨fun vs H Q E q=>F.len vs H Q E (h _ _ _ _ q),fun A outer s H args us vs Q E hr he hb hv hs=>F.run A outer s H args us vs Q E hr he hb hv (h _ _ _ _ hs)⟩
theorem Env0.make {P:Program}{w:World}{K:PySem.W.Frag}{mg:Str→Option Value}{base:Heap}{A:Around}{outer:List Env}{s:Shared}{H:Hp}(e:Env0 P w K mg base A outer s H)(C:Addr)(us:List Value)(kw:List (Str ×Value)):
  Env0 P w K mg base (A.under (.builtin "type.__call__" ⟨.ref C::us,kw⟩)) outer s H:=⟨by first | exact e.frames | (simpa [Around.under,Code.envs,Code.isFrame,pushEnvs] using e.frames),e.mod,e.bs,e.bsz,e.funs,e.frf,e.hok,e.bare⟩
theorem Env0.in1 {P:Program}{w:World}{K:PySem.W.Frag}{mg:Str→Option Value}{base:Heap}{A:Around}{outer:List Env}{s:Shared}{H:Hp}(e:Env0 P w K mg base A outer s H):
  Env0 P w K mg base A.in1 outer s H:=⟨e.frames,e.mod,e.bs,e.bsz,e.funs,e.frf,e.hok,e.bare⟩
section
variable {X:Cx}{pins:List (Addr ×Obj)}{σ:St}{H:Hp}{s s':Shared}
theorem Inv.env0 (I:Inv X pins σ H s):Env0 X.prog X.w X.K X.mg X.base X.A X.stack s H:=
 ⟨I.ok.frames,I.ok.mod,I.bs,Nat.le_trans I.ok.bsz I.sz,I.stack,I.stkFree,I.hok,I.bare⟩
theorem Inv.after {Q:VK}{u:Value}(I:Inv X pins σ H s)(h:CE X.stack X.prog X.w H s Q u s'):EP X pins σ Q u s':=by
 obtain ⟨v,H',os,bare,un,hok,r,q⟩:=h
 obtain ⟨hh,g,d,t,os'⟩:=s'
 obtain rfl:os'=s.os:=os
 exact ⟨v,H',I.call (h':=hh) (g':=g) (d':=d) (t':=t) (ch:=[]) un hok bare (fun b z=>absurd z (by simp)),r,q⟩
end
def ziX (sp:Sp)(dvs:List V)(E:XK)(t:TA):TE:=fun σ H Q=>t σ H fun vs H1=>sp (vs++dvs) H1 Q E
def zkZ (C:Addr)(m:Str)(sp:Sp)(dvs:List V)(E:XK)(ta:TE)(t:TA):TE:=fun σ H Q=>ta σ H fun x H1=>∃a dx fs,x=.ref a∧H1 a=some (.ins C dx fs)∧fs.lookup m=none∧
 t σ H1 fun vs H2=>sp (x::(vs++dvs)) H2 Q E
def zkX (C:Addr)(sp:Sp)(dvs:List V)(E:XK)(t:TA):TE:=fun σ H Q=>t σ H fun vs H1=>∀x dx,H1 x=none→H1 dx=none→dx≠x→
 sp (.ref x::(vs++dvs)) (upd (upd H1 dx (.own x)) x (.ins C dx [])) (fun v H2=>v=.non∧Q (.ref x) H2) E
def Binds (K:PySem.W.Frag)(fd:FuncData)(ps:List Str)(ds:List Value):Prop:=
 ∀(s:Shared) (us:List Value),K.In s.heap→(us++ds).length=ps.length→BindsTo s fd ⟨us,[]⟩ (ps.zip (us++ds))
theorem Binds.all {K:PySem.W.Frag}{fd:FuncData}{ps:List Str}(h:∀us:List Value,us.length=ps.length→bindArgs fd ⟨us,[]⟩=pure (ps.zip us)):Binds K fd ps []:=fun s us _ hl=>by
 rw [List.append_nil] at hl ⊢
 exact .of_eq (h us hl)
def zbH (CX:CXT)(X:Cx)(E:XK):Prop:=∀(pins:List (Addr ×Obj)) (σ:St) (H:Hp) (s:Shared) (e:Value) (s':Shared),Inv X pins σ H s→CX X.stack H s E e s'→X.xe e s'
section
variable {X:Cx}{CX:CXT}{k:Nat}{f C:Addr}{fd:FuncData}{ps:List Str}{sp:Sp}{dvs:List V}{ds:List Value}{E:XK}{x m:Str}{p pos apos:Pos}{e o:Expr}{es:List Expr}{ta:TE}{t:TA}
theorem zjW {pins:List (Addr ×Obj)}{σ:St}{H:Hp}{s:Shared}{Q:VK}{us:List Value}{vs:List V}(F:FnOk X.prog X.w X.K X.mg X.base CX k f fd ps sp)(hr:Room k X.A)(hb:Binds X.K fd ps ds)(hd:Vals dvs ds)(hx:zbH CX X E)
  (I:Inv X pins σ H s) (r:Vals vs us) (h:sp (vs++dvs) H Q E):wpAny (model X.prog X.w) X.A (call (.ref f) us) (EP X pins σ Q) X.xe s:=by
 have r2:Vals (vs++dvs) (us++ds):=r.append hd
 have hl:(us++ds).length=ps.length:=by rw [←r2.length];exact F.len _ _ _ _ h
 refine wpAny_call (codeAny_mono (F.run X.A X.stack s H ⟨us,[]⟩ (us++ds) (vs++dvs) Q E hr I.env0 (hb s us I.kIn hl) r2 h) fun r s' hq=>?_)
 cases r with
 | error e=>exact hx pins σ H s e s' I hq
 | ok fl=>
  cases fl with
  | ret u=>exact I.after hq
  | next=>exact False.elim hq
  | brk=>exact False.elim hq
  | cont=>exact False.elim hq
theorem zhp (F:FnOk X.prog X.w X.K X.mg X.base CX k f fd ps sp)(hr:Room k X.A)(hg:Gl X x)(hm:X.mg x=some (.ref f))(hk:PySem.W.keepIn X.K (.ref f)=true)(hb:Binds X.K fd ps ds)(hd:Vals dvs ds)(hx:zbH CX X E)
  (ha:PA X (e::es) t) (hdb:(x==("__debug__" :Str))=false:=by decide) (he:starEach (e::es) X.env=(false,eval e X.env)::starEach es X.env:=by rfl) (hpl:(backTo pos (starEach es X.env)).any (·.1)=false:=by rfl):
  PE X (.Call (.Name x p) (e::es) [] pos) (ziX sp dvs E t):=by
 intro pins s σ H Q I h
 refine wpAny_Call_Name_kw (zcl I hg hm ?_ hdb)
 refine PySem.W.callWith_K (h₀:=X.base) I.ok.mod.kin hk (thn (ha pos pins s σ H _ I h) fun us s1 ⟨vs,H1,I1,r,q⟩=>⟨I1.kIn,?_⟩) he hpl
 exact zjW F hr hb hd hx I1 r q
theorem zkv {pl:Sem Bool}(he:PE X o ta)(c:Cls X.K C)(hm:Meth X.K C m f)(F:FnOk X.prog X.w X.K X.mg X.base CX k f fd ps sp)(hr:Room k X.A)(hb:Binds X.K fd ps ds)(hd:Vals dvs ds)(hx:zbH CX X E)(ha:PA X (e::es) t)
  (hst:starEach (e::es) X.env=(false,eval e X.env)::starEach es X.env:=by rfl) (hpl:(backTo pos (starEach es X.env)).any (·.1)=false:=by rfl)
  (ht:eval (.Call (.Attribute o m apos) (e::es) [] pos) X.env=(do
   let ov←eval o X.env
   standAt apos.atName
   let (f,first) ←holding [ov] (getMethod ov m pl)
   callWith pos f first (backTo pos (starEach (e::es) X.env)) (backToKw pos (keywordEach [] X.env))):=by rfl):
  PE X (.Call (.Attribute o m apos) (e::es) [] pos) (zkZ C m sp dvs E ta t):=by
 intro pins s σ H Q I h
 refine PySem.W.methodCall_KW (pl:=pl) (thn (he pins s σ H _ I h) fun u s1 ⟨x,H1,I1,rx,a,dx,fs,ex,ea,l,q⟩=>?_) ht
 subst ex
 obtain rfl:u=Value.ref a:=rx
 refine zd9 I1 ea c hm l ?_
 refine PySem.W.callWith_K (first:=[.ref a]) (h₀:=X.base) I.ok.mod.kin hm.kp (thn (ha pos pins s1 σ H1 _ I1 q) fun us s2 ⟨vs,H2,I2,r,q2⟩=>⟨I2.kIn,?_⟩) hst hpl
 exact zjW (us:=.ref a::us) (vs:=.ref a::vs) F hr hb hd hx I2 (.cons rfl r) q2
structure Mk (K:PySem.W.Frag)(C f:Addr):Prop where
 makes:PySem.W.makesIn K C=true
 init:PySem.W.findIn K (.ref C) "__init__" =some (some (.ref f))
 fn:PySem.W.isFn K (.ref f)=true
 kp:PySem.W.keepIn K (.ref C)=true
theorem zjL {pins:List (Addr ×Obj)}{σ:St}{H:Hp}{s:Shared}{Q:VK}{us:List Value}{vs:List V}(M:Mk X.K C f)(F:FnOk X.prog X.w X.K X.mg X.base CX k f fd ps sp)(hr:Room (k+1) X.A)(hb:Binds X.K fd ps ds)(hd:Vals dvs ds)
  (hx:zbH CX X E) (I:Inv X pins σ H s) (r:Vals vs us)
  (h:∀x dx,H x=none→H dx=none→dx≠x→sp (.ref x::(vs++dvs)) (upd (upd H dx (.own x)) x (.ins C dx [])) (fun v H2=>v=.non∧Q (.ref x) H2) E):
  wpAny (model X.prog X.w) X.A (call (.ref C) us) (EP X pins σ Q) X.xe s:=by
 have hq:=h (s.heap.objs.size+1) s.heap.objs.size (I.hok.fresh (Nat.le_succ _)) (I.hok.fresh (Nat.le_refl _)) (Nat.ne_of_lt (Nat.lt_succ_self _))
 have I2:=Inv.made (C:=C) I
 have r2:Vals (V.ref (s.heap.objs.size+1)::(vs++dvs)) (Value.ref (s.heap.objs.size+1)::(us++ds)):=.cons rfl (r.append hd)
 have hl:(Value.ref (s.heap.objs.size+1)::us++ds).length=ps.length:=by
  have e:=r2.length
  rw [F.len _ _ _ _ hq] at e
  exact e.symm
 refine wpAny_call (zjf (f:=f) I.kIn M.makes M.init (beq_iff_eq.mp M.fn) (codeAny_mono (F.run _ X.stack _ _ ⟨Value.ref (s.heap.objs.size+1)::us,[]⟩ (Value.ref (s.heap.objs.size+1)::(us++ds)) _ _ E (hr.make C us [])
  (I2.env0.make C us []) (hb _ (Value.ref (s.heap.objs.size+1)::us) I2.kIn hl) r2 hq) fun r s' hq'=>?_))
 cases r with
 | error e=>exact hx pins σ _ _ e s' I2 hq'
 | ok fl=>
  cases fl with
  | ret u=>
   obtain ⟨v,H',I3,rv,ev,q3⟩:=I2.after hq'
   subst ev
   exact ⟨rv,⟨V.ref (s.heap.objs.size+1),H',I3,rfl,q3⟩⟩
  | next=>exact False.elim hq'
  | brk=>exact False.elim hq'
  | cont=>exact False.elim hq'
theorem ziF (M:Mk X.K C f)(F:FnOk X.prog X.w X.K X.mg X.base CX k f fd ps sp)(hr:Room (k+1) X.A)(hg:Gl X x)(hm:X.mg x=some (.ref C))(hb:Binds X.K fd ps ds)(hd:Vals dvs ds)(hx:zbH CX X E)
  (hdb:(x==("__debug__" :Str))=false:=by decide):PE X (.Call (.Name x p) [] [] pos) (zkX C sp dvs E tNil):=by
 intro pins s σ H Q I h
 refine wpAny_Call_Name_kw (zcl I hg hm ?_ hdb)
 exact PySem.W.callWith_K0 I.kIn M.kp (zjL (us:=[]) M F hr hb hd hx I .nil h)
end
def PK (X:Cx)(kws:List Keyword)(t:TA):Prop:=
 ∀(pos:Pos) (pins:List (Addr ×Obj)) (s:Shared) (σ:St) (H:Hp) (Q:List V→Hp→Prop),Inv X pins σ H s→t σ H Q→wpAny (model X.prog X.w) X.A (evalAll ((backToKw pos (keywordEach kws X.env)).map (·.2))) (AP X pins σ Q) X.xe s
section
variable {X:Cx}{CX:CXT}{k:Nat}{f C:Addr}{fd:FuncData}{ps ks:List Str}{sp:Sp}{E:XK}{x m:Str}{p pos apos kpos:Pos}{e o:Expr}{es:List Expr}{kws:List Keyword}{te ta:TE}{t tk:TA}{nm:Option Str}
structure zne (K:PySem.W.Frag)(fd:FuncData)(ps ks:List Str)(g:List Value→List Value→List Value)(gV:List V→List V→List V):Prop where
 to:∀(s:Shared) (us ws:List Value),K.In s.heap→(g us ws).length=ps.length→BindsTo s fd ⟨us,ks.zip ws⟩ (ps.zip (g us ws))
 rel:∀{vs:List V} {us:List Value} {zs:List V} {ws:List Value},Vals vs us→Vals zs ws→Vals (gV vs zs) (g us ws)
def zmX (sp:Sp)(gV:List V→List V→List V)(E:XK)(t tk:TA):TE:=fun σ H Q=>t σ H fun vs H1=>tk σ H1 fun zs H2=>sp (gV vs zs) H2 Q E
variable {g:List Value→List Value→List Value}{gV:List V→List V→List V}
end
structure zv (N P:List Str)(sc:Scope):Prop where
 kind:sc.kind=.function
 co:sc.isCoroutine=false
 gen:sc.isGenerator=false
 nd:N.Nodup
 pre:N.take P.length=P
 par:∀x∈P,sc.names.lookup x=some .local∨sc.names.lookup x=some .cell
 nofree:∀y∈sc.names,y.2≠ .free
theorem zeH {kindOf:Str→Option NameKind}{x:Str}:∀{binds:List (Str ×Value)} {m:Str→Option Value},(∀v,(x,v)∉binds)→bindL kindOf binds m x=m x
 | [],_,_=>rfl
 | (n,v)::r,m,h=>by
  unfold bindL
  rw [zeH fun w hw=>h w (List.mem_cons_of_mem _ hw)]
  split
  ·have:x≠n:=by rintro rfl;exact h v List.mem_cons_self
   simp [this]
  ·rfl
theorem zeO {kindOf:Str→Option NameKind}{x:Str}:∀{binds:List (Str ×Value)} {m:Str→Option Value},(∀v,(x,v)∉binds)→bindC kindOf binds m x=m x
 | [],_,_=>rfl
 | (n,v)::r,m,h=>by
  unfold bindC
  rw [zeO fun w hw=>h w (List.mem_cons_of_mem _ hw)]
  split
  ·rfl
  ·have:x≠n:=by rintro rfl;exact h v List.mem_cons_self
   simp [this]
theorem zeU {kindOf:Str→Option NameKind}{x:Str}{v:Value}:∀{P:List Str} {vs:List Value} {i:Nat} {m:Str→Option Value},P.Nodup→P[i]? =some x→vs[i]? =some v→kindOf x=some .local→
  bindL kindOf (P.zip vs) m x=some v
 | [],_,_,_,_,h,_,_=>by simp at h
 | _::_,[],_,_,_,_,h,_=>by simp at h
 | p::P,w::vs,0,m,nd,h1,h2,hk=>by
  simp at h1 h2;subst h1;subst h2
  show bindL kindOf ((p,w)::P.zip vs) m p=_
  unfold bindL
  rw [zeH fun v hv=>(List.nodup_cons.mp nd).1 (List.of_mem_zip hv).1,if_pos hk]
  simp
 | p::P,w::vs,i+1,m,nd,h1,h2,hk=>by
  show bindL kindOf ((p,w)::P.zip vs) m x=_
  unfold bindL
  exact zeU (i:=i) (List.nodup_cons.mp nd).2 (by simpa using h1) (by simpa using h2) hk
theorem zeX {kindOf:Str→Option NameKind}{x:Str}{v:Value}:∀{P:List Str} {vs:List Value} {i:Nat} {m:Str→Option Value},P.Nodup→P[i]? =some x→vs[i]? =some v→kindOf x≠some .local→
  bindC kindOf (P.zip vs) m x=some v
 | [],_,_,_,_,h,_,_=>by simp at h
 | _::_,[],_,_,_,_,h,_=>by simp at h
 | p::P,w::vs,0,m,nd,h1,h2,hk=>by
  simp at h1 h2;subst h1;subst h2
  show bindC kindOf ((p,w)::P.zip vs) m p=_
  unfold bindC
  rw [zeO fun v hv=>(List.nodup_cons.mp nd).1 (List.of_mem_zip hv).1,if_neg hk]
  simp
 | p::P,w::vs,i+1,m,nd,h1,h2,hk=>by
  show bindC kindOf ((p,w)::P.zip vs) m x=_
  unfold bindC
  exact zeX (i:=i) (List.nodup_cons.mp nd).2 (by simpa using h1) (by simpa using h2) hk
def start (N:List Str)(vs:List V):St:=vs.map some++List.replicate (N.length - vs.length) none
def cxOf (CX:CXT)(P:Program)(w:World)(K:PySem.W.Frag)(mg:Str→Option Value)(base:Heap)(N:List Str)(qual:Str)(scope:Scope)(f:Addr)(cd:Value)(A:Around)(outer:List Env)(s:Shared)(H:Hp)(E:XK):Cx where
 prog:=P
 w:=w
 K:=K
 mg:=mg
 base:=base
 A:=A.deeper (envOfC qual scope s.heap.objs.size f cd)
 N:=N
 s₀:=s
 H₀:=H
 env:=envOfC qual scope s.heap.objs.size f cd
 outer:=outer
 stack:=envOfC qual scope s.heap.objs.size f cd::outer
 ex:=[]
 calm:=true
 fn:=fun _=>true
 pn:=[]
 xe:=fun e s'=>wpAny (model P w) (A.deeper (envOfC qual scope s.heap.objs.size f cd)) (leaving (envOfC qual scope s.heap.objs.size f cd) e) (fun _ s''=>CX outer H s E e s'') (fun e' s''=>CX outer H s E e' s'') s'
theorem zf5 {sc:Scope}{n:Nat}{x:Str}(h:sc.names.lookup x=some .cell):∃c,(cellsFrom n sc.names []).lookup x=some c:=by
 have q:=PySem.W.cellsFrom_some sc.names n [] (.inl h)
 exact Option.isSome_iff_exists.mp q
theorem zii {CX:CXT}{P:Program}{w:World}{K:PySem.W.Frag}{mg:Str→Option Value}{base:Heap}{N ps:List Str}{qual:Str}{scope:Scope}{f:Addr}{cd:Value}{A:Around}{outer:List Env}{s s1:Shared}{H:Hp}{E:XK}{us:List Value}{vs:List V}
  (S:zv N ps scope) (hd:A.handled=none) (e0:Env0 P w K mg base A outer s H) (hl:vs.length=ps.length) (r:Vals vs us)
  (x:InCallC s s.heap.objs.size (bindL (envOfC qual scope s.heap.objs.size f cd).kindOf (ps.zip us) fun _=>none) (cellsFrom (s.heap.objs.size+1) scope.names []) (bindC (envOfC qual scope s.heap.objs.size f cd).kindOf (ps.zip us) fun _=>none) s1):
  Inv (cxOf CX P w K mg base N qual scope f cd A outer s H E) [] (start N vs) H s1:=by
 have hpl:ps.length≤N.length:=by have:=congrArg List.length S.pre;rw [List.length_take] at this;omega
 obtain ⟨h1,tk,rfl,hk⟩:=x.done
 have noA:∀b:Addr,b∉(cxOf CX P w K mg base N qual scope f cd A outer s H E).ex:=fun b z=>absurd (show b∈([]:List Addr) from z) (by simp)
 refine ⟨⟨e0.mod,S.kind,rfl,rfl,Nat.le_refl _,fun y z c h1 h2=>?_,fun y hy=>?_,fun y c _ h=>?_,fun _=>hd,Around.frames_deeper e0.frames,.inr ⟨rfl,rfl⟩,fun b z=>absurd z (noA b),e0.bs,e0.bsz,fun b _ _=>noA b,fun b z=>absurd z (noA b),e0.funs,e0.frf⟩,
  rfl,e0.bare,Un.kept hk,⟨_,x.toInCall.ns,fun i y v h1 h2 h3=>?_⟩,fun y c h=>⟨_,x.cell y c h⟩,e0.hok.fresh (Nat.le_refl _),fun y c h=>?_,fun p hp=>absurd (show p∈([]:List (Addr ×Obj)) from hp) (by simp),e0.hok.kept hk,?_⟩
 ·exact name_of_addr x.apart (PySem.mem_of_lookup h1) (PySem.mem_of_lookup h2)
 ·have hy:scope.names.lookup y=some .cell∨scope.names.lookup y=some .free:=hy
  rcases hy with hy | hy
  ·exact zf5 hy
  ·exact absurd rfl (S.nofree _ (PySem.mem_of_lookup hy))
 ·exact Nat.le_of_lt (x.above y c (PySem.mem_of_lookup h))
 ·have hi:i < vs.length:=by
   unfold start at h2
   by_cases hi:i < vs.length
   ·exact hi
   ·rw [List.getElem?_append_right (by simpa using hi)] at h2
    rw [List.getElem?_replicate] at h2
    split at h2 <;> cases h2
  have ha:vs[i]? =some v:=by
   unfold start at h2
   rw [List.getElem?_append_left (by simpa using hi),List.getElem?_map] at h2
   cases e:vs[i]? with
   | none=>rw [e] at h2;cases h2
   | some a=>rw [e] at h2;cases h2;rfl
  obtain ⟨u,hu,rv⟩:=r.get ha
  have hp:ps[i]? =some y:=by
   rw [←S.pre,List.getElem?_take_of_lt (by omega)];exact h1
  have ndP:ps.Nodup:=by rw [←S.pre];exact S.nd.sublist (List.take_sublist _ _)
  refine ⟨u,rv,?_⟩
  rcases S.par y (List.mem_of_getElem? hp) with k | k
  ·exact .inl ⟨k,zeU ndP hp hu k⟩
  ·obtain ⟨c,e⟩:=zf5 (n:=s.heap.objs.size+1) k
   refine .inr ⟨.inl k,c,e,?_⟩
   have q:=x.cell y c e
   rw [zeX ndP hp hu (by show scope.names.lookup y≠_;rw [k];decide)] at q
   exact q
 ·exact e0.hok.fresh (Nat.le_of_lt (x.above y c (PySem.mem_of_lookup h)))
 ·unfold start
  show _=N.length
  rw [List.length_append,List.length_map,List.length_replicate]
  omega
theorem zkW {CX:CXT}{P:Program}{w:World}{K:PySem.W.Frag}{mg:Str→Option Value}{base:Heap}{k:Nat}{f:Addr}{name qual:Str}{params:Arguments}{body:List Stmt}{scope:Scope}{dV kV doc pm cdv ct oc:Value}{an od:Option Addr}
  {osl:Array (Option Value)} {N ps:List Str} {sp:Sp} (lk:K.lookup f=some ⟨oc,od,.func (PySem.W.fnOf name qual params body scope dV kV doc pm an cdv ct),osl⟩) (hcd:PySem.W.codeIn K cdv qual=true) (S:zv N ps scope)
  (len:∀vs H Q E,sp vs H Q E→vs.length=ps.length)
  (hbody:∀(A:Around) (outer:List Env) (s:Shared) (H:Hp) (vs:List V) (Q:VK) (E:XK),Room k (A.deeper (envOfC qual scope s.heap.objs.size f cdv))→sp vs H Q E→
   ∃t,PSs (cxOf CX P w K mg base N qual scope f cdv A outer s H E) body t∧t {nx:=fun _ H'=>Q .non H',rt:=Q} (start N vs) H):
  FnOk P w K mg base CX (k+1) f (PySem.W.fnOf name qual params body scope dV kV doc pm an cdv ct) ps sp:=by
 refine ⟨len,fun A outer s H args us vs Q E hr e0 hb r hsp=>?_⟩
 have hl:=len _ _ _ _ hsp
 have KX:K.In s.heap:=e0.mod.kin.keeps fun b o e=>(e0.bs b o e).1
 have lim:s.heap.NoLimit:=e0.mod.nolimit.keeps fun b o e=>(e0.bs b o e).1
 have hkind:∀y∈ps.zip us,scope.names.lookup y.1=some .local∨(scope.names.lookup y.1=some .cell∧((cellsFrom (s.heap.objs.size+1) scope.names []).lookup y.1).isSome=true):=fun ⟨n,v⟩ hy=>by
  rcases S.par n (List.of_mem_zip hy).1 with q | q
  ·exact .inl q
  ·exact .inr ⟨q,PySem.W.cellsFrom_some _ _ _ (.inl q)⟩
 refine codeAny_call_function hr.depth (KX _ _ lk) rfl S.co S.gen rfl (PySem.W.codeRec_of KX hcd) (hb _ _ _ _ ?_)
 refine wpAny_newFunctionEnv_cells S.kind hkind fun env he s1 x=>?_
 subst he
 refine ⟨lim.keeps x.toInCall.keep,codeAny_func ?_⟩
 obtain ⟨t,ht,hq⟩:=hbody A outer s H vs Q E (hr.deeper _) hsp
 have I:Inv (cxOf CX P w K mg base N qual scope f cdv A outer s H E) [] (start N vs) H s1:=zii S hr.hd e0 hl r x
 refine wpAny_mono (ht [] s1 (start N vs) H _ I hq) (fun fl s' hs=>?_) fun e s' hs=>hs
 have fin:∀{σ':St} {H':Hp} {v:V} {u:Value},Inv (cxOf CX P w K mg base N qual scope f cdv A outer s H E) [] σ' H' s'→RelV v u→Q v H'→CE outer P w H s Q u s':=
  fun {σ' H' v u} J rv q=>⟨v,H',J.os,J.bare,J.base,J.hok,rv,q⟩
 cases fl with
 | ret u=>
  obtain ⟨v,σ',H',J,rv,q⟩:=hs
  exact fin J rv q
 | next=>
  obtain ⟨σ',H',J,q⟩:=hs
  exact fin (v:=V.non) (u:=Value.none) J rfl q
 | brk=>
  obtain ⟨_,_,_,q⟩:=hs
  exact False.elim q
 | cont=>
  obtain ⟨_,_,_,q⟩:=hs
  exact False.elim q
end L2
namespace L2
open PySem PySem.Spec PyProof.Rows
section
variable {X:Cx}{x:Str}{p pos:Pos}{e:Expr}{es:List Expr}{t:TA}{id T:String}{r:List V→Hp→VK→Prop}
def tCB (r:List V→Hp→VK→Prop)(t:TA):TE:=fun σ H Q=>t σ H fun vs H1=>r vs H1 Q
theorem zF (hc:za4 X (.builtin id) r)(hg:Gl X x)(hm:X.mg x=none)(hv:bootBuiltins x=some (.builtin id))(ha:PA X (e::es) t)(hn:x≠ "__name__" :=by decide) (hdb:(x==("__debug__" :Str))=false:=by decide)
  (he:starEach (e::es) X.env=(false,eval e X.env)::starEach es X.env:=by rfl) (hpl:(backTo pos (starEach es X.env)).any (·.1)=false:=by rfl):PE X (.Call (.Name x p) (e::es) [] pos) (tCB r t):=by
 intro pins s σ H Q I h
 refine wpAny_Call_Name_kw (zc2 I hg hm hv ?_ hn hdb)
 exact PyProof.Rows.callWith_builtin1 (thn (ha pos pins s σ H _ I h) fun us s1 ⟨vs,H1,I1,r1,q1⟩=>hc pins s1 σ H1 vs us Q I1 r1 q1) he hpl
theorem zcN (hc:za4 X (.type T) r)(hg:Gl X x)(hm:X.mg x=none)(hv:bootBuiltins x=some (.type T))(ha:PA X (e::es) t)(hn:x≠ "__name__" :=by decide) (hdb:(x==("__debug__" :Str))=false:=by decide)
  (he:starEach (e::es) X.env=(false,eval e X.env)::starEach es X.env:=by rfl) (hpl:(backTo pos (starEach es X.env)).any (·.1)=false:=by rfl):PE X (.Call (.Name x p) (e::es) [] pos) (tCB r t):=by
 intro pins s σ H Q I h
 refine wpAny_Call_Name_kw (zc2 I hg hm hv ?_ hn hdb)
 exact PyProof.Rows.callWith_type1 (thn (ha pos pins s σ H _ I h) fun us s1 ⟨vs,H1,I1,r1,q1⟩=>hc pins s1 σ H1 vs us Q I1 r1 q1) he hpl
end
end L2
namespace HT
open PySem PyProof.Rows
def lexLt:List Int→List Int→Bool
 | [],[]=>false
 | [],_::_=>true
 | _::_,[]=>false
 | x::xs,y::ys=>if x=y then lexLt xs ys else decide (x < y)
theorem lexLt_cons (x y:Int)(xs ys:List Int):lexLt (x::xs) (y::ys)=if x=y then lexLt xs ys else decide (x < y):=rfl
section
open PySem.SeqAt
open PySem.AutoSeq1 (wpAny_loadPart')
open PySem.MeetsSeq PySem.MeetsSeq2 PySem.MeetsSeq3
end
section
variable {prog:Program}{w:World}{A:Around}{E:Value→Shared→Prop}{s:Shared}
def sIx (n d:Nat):Option Int→Nat
 | none=>d
 | some v=>if v < 0 then (v+(n:Int)).toNat else min v.toNat n
theorem sIx_none (n d:Nat):sIx n d none=d:=rfl
theorem sIx_nat (n d k:Nat):sIx n d (some (k:Int))=min k n:=by
 show (if (k:Int) < 0 then ((k:Int)+(n:Int)).toNat else min (k:Int).toNat n)=min k n
 rw [if_neg (by omega),Int.toNat_natCast]
theorem sIx_le (n d:Nat)(hd:d≤n)(o:Option Int):sIx n d o≤n:=by
 cases o with
 | none=>exact hd
 | some v=>
  show (if v < 0 then (v+(n:Int)).toNat else min v.toNat n)≤n
  by_cases hv:v < 0
  ·rw [if_pos hv];omega
  ·rw [if_neg hv];exact Nat.min_le_right _ _
theorem clip_eq (v:Int)(n d:Nat):(if v < 0 then max (v+(n:Int)) 0 else min v (n:Int))=((sIx n d (some v):Nat):Int):=by
 show (if v < 0 then max (v+(n:Int)) 0 else min v (n:Int))=(((if v < 0 then (v+(n:Int)).toNat else min v.toNat n):Nat):Int)
 by_cases hv:v < 0
 ·simp only [if_pos hv];omega
 ·simp only [if_neg hv];omega
end
end HT
namespace L2
open PySem PySem.Spec PyProof.Rows
abbrev TO:=St→Hp→(Option Int→Hp→Prop)→Prop
def PO (X:Cx)(e:Option Expr)(t:TO):Prop:=
 ∀(pins:List (Addr ×Obj)) (s:Shared) (σ:St) (H:Hp) (Q:Option Int→Hp→Prop),Inv X pins σ H s→t σ H Q→
  wpAny (model X.prog X.w) X.A (evalPart e X.env) (fun u s'=>∃o H',Inv X pins σ H' s'∧IsPart u o∧Q o H') X.xe s
def zkx:TO:=fun _ H Q=>Q none H
def zmA (t:TE):TO:=fun σ H Q=>t σ H fun x H1=>∃i,x=.int i∧Q (some i) H1
section
variable {X:Cx}{e:Expr}{te:TE}{lo hi:Option Expr}{tl th:TO}{pos p2:Pos}
theorem zcf:PO X none zkx:=by
 intro pins s σ H Q I h
 rw [evalPart_none]
 exact wpAny_pure ⟨none,H,I,.none,h⟩
theorem zaY (h:PE X e te):PO X (some e) (zmA te):=by
 intro pins s σ H Q I hw
 rw [evalPart_some]
 refine thn (h pins s σ H _ I hw) fun u s1 ⟨x,H1,I1,r1,q1⟩=>?_
 obtain ⟨i,rfl,q⟩:=q1
 obtain ⟨t,rfl⟩:=r1
 exact ⟨some i,H1,I1,.int i t,q⟩
def SlR (X:Cx)(r:V→Option Int→Option Int→Hp→VK→Prop):Prop:=
 ∀(pins:List (Addr ×Obj)) (s:Shared) (σ:St) (H:Hp) (x:V) (v vl vu:Value) (lo hi:Option Int) (sl:Addr) (Q:VK),Inv X pins σ H s→RelV x v→s.heap.IsSliceOf sl vl vu .none→IsPart vl lo→IsPart vu hi→r x lo hi H Q→
  ∃T id,typeLookup (.type T) "__getitem__" =pure (some (.builtin id))∧s.TypeIs v T∧wpAny (model X.prog X.w) X.A (getItem v (.ref sl)) (EP X pins σ Q) X.xe s
theorem SlR.or {r r':V→Option Int→Option Int→Hp→VK→Prop}(h:SlR X r)(h':SlR X r'):SlR X (fun x lo hi H Q=>r x lo hi H Q∨r' x lo hi H Q):=by
 intro pins s σ H x v vl vu lo hi sl Q I rx hs pl pu q
 rcases q with q | q
 ·exact h pins s σ H x v vl vu lo hi sl Q I rx hs pl pu q
 ·exact h' pins s σ H x v vl vu lo hi sl Q I rx hs pl pu q
def tSl (r:V→Option Int→Option Int→Hp→VK→Prop)(te:TE)(tl th:TO):TE:=fun σ H Q=>te σ H fun x H1=>tl σ H1 fun l H2=>th σ H2 fun u H3=>r x l u H3 Q
theorem za1 {r:V→Option Int→Option Int→Hp→VK→Prop}(hr:SlR X r)(he:PE X e te)(hl:PO X lo tl)(hu:PO X hi th):PE X (.Subscript e (.Slice lo hi none p2) pos) (tSl r te tl th):=by
 intro pins s σ H Q I h
 refine Subscript_ (thn (he pins s σ H _ I h) fun v s1 ⟨x,H1,I1,r1,q1⟩=>?_)
 refine wpAny_Slice (thn (hl pins s1 σ H1 _ I1 q1) fun vl s2 ⟨l,H2,I2,pl,q2⟩=>thn (hu pins s2 σ H2 _ I2 q2) fun vu s3 ⟨u,H3,I3,pu,q3⟩=>?_)
 rw [evalPart_none]
 refine wpAny_pure ?_
 have I4:Inv X pins σ H3 {s3 with heap:=s3.heap.push {cls:=.type "slice",data:=.fields #[vl,vu,.none]}}:=I3.kept (t':=s3.toks) fun b ob q=>Heap.get?_push_of_some _ q
 obtain ⟨T,id,hT,ht,hg⟩:=hr pins {s3 with heap:=s3.heap.push {cls:=.type "slice",data:=.fields #[vl,vu,.none]}} σ H3 x v vl vu l u s3.heap.objs.size Q I4 r1 (Heap.IsSliceOf.new ..) pl pu q3
 show wpAny (model X.prog X.w) X.A (subscriptTail e (.Slice lo hi none p2) v (.ref s3.heap.objs.size)) (EP X pins σ Q) X.xe {s3 with heap:=s3.heap.push {cls:=.type "slice",data:=.fields #[vl,vu,.none]}}
 exact tail_any (ops:=[.ref s3.heap.objs.size,v]) ht hT hg (by with_unfolding_all rfl)
def cutV (xs:List V)(lo hi:Option Int):List V:=(xs.drop (HT.sIx xs.length 0 lo)).take (HT.sIx xs.length xs.length hi - HT.sIx xs.length 0 lo)
theorem zfY (xs:List V)(lo hi:Option Int):(cutV xs lo hi).length≤xs.length:=by
 unfold cutV
 rw [List.length_take,List.length_drop]
 omega
def rSlT (K:PySem.W.Frag):V→Option Int→Option Int→Hp→VK→Prop:=fun x lo hi H Q=>∃a xs,x=.ref a∧SqT K H a xs∧
 ¬(HT.sIx xs.length 0 lo=0∧HT.sIx xs.length xs.length hi=xs.length)∧∀p,H p=none→Q (.ref p) (upd H p (.tup (cutV xs lo hi)))
def rLtT (K:PySem.W.Frag):R2:=fun x y H Q=>∃a b ns ms,x=.ref a∧y=.ref b∧SqT K H a (ns.map V.int)∧SqT K H b (ms.map V.int)∧Q (.bl (HT.lexLt ns ms)) H
def zny (K:PySem.W.Frag):R2:=fun x y H Q=>∃a b xs ys,x=.ref a∧y=.ref b∧SqT K H a xs∧SqT K H b ys∧xs≠ []∧xs.length+ys.length≤sizeLine∧
 (ys=[]→Q (.ref a) H)∧(ys≠ []→∀p,H p=none→Q (.ref p) (upd H p (.tup (xs++ys))))
end
end L2
namespace L2
open PySem PySem.Spec PyProof.Rows
def ixN (n:Nat)(i:Int):Option Nat:=if 0≤i then (if i < n then some i.toNat else none) else if -(n:Int)≤i then some (i+n).toNat else none
def atI {α:Type}(xs:List α)(i:Int):Option α:=(ixN xs.length i).bind fun j=>xs[j]?
theorem zks {n:Nat}{i:Int}{j:Nat}(h:ixN n i=some j):seqIndex? i n=some j∧j < n∧ -(n:Int)≤i∧i < n:=by
 unfold ixN at h
 by_cases h0:0≤i
 ·rw [if_pos h0] at h
  by_cases h1:i < n
  ·rw [if_pos h1] at h
   have e:i.toNat=j:=Option.some.inj h
   exact ⟨by rw [seqIndex_of h0 h1,e],by omega,by omega,h1⟩
  ·rw [if_neg h1] at h;cases h
 ·rw [if_neg h0] at h
  by_cases h1: -(n:Int)≤i
  ·rw [if_pos h1] at h
   have e:(i+n).toNat=j:=Option.some.inj h
   exact ⟨by rw [seqIndex_neg (by omega) h1,e],by omega,h1,by omega⟩
  ·rw [if_neg h1] at h;cases h
theorem zfw {α:Type}{xs:List α}{i:Int}{v:α}(h:atI xs i=some v):∃j,seqIndex? i xs.length=some j∧xs[j]? =some v∧j < xs.length∧ -(xs.length:Int)≤i∧i < xs.length:=by
 unfold atI at h
 cases e:ixN xs.length i with
 | none=>rw [e] at h;cases h
 | some j=>
  rw [e] at h
  obtain ⟨h1,h2,h3,h4⟩:=zks e
  exact ⟨j,h1,h,h2,h3,h4⟩
theorem zaI {α:Type}{xs:List α}{j:Nat}{v:α}(h:xs[j]? =some v):atI xs (j:Int)=some v:=by
 have hj:j < xs.length:=(List.getElem?_eq_some_iff.mp h).1
 have e:ixN xs.length (j:Int)=some j:=by
  unfold ixN
  rw [if_pos (by omega),if_pos (by omega)];simp
 unfold atI;rw [e];exact h
theorem zdk {α:Type}(xs:List α)(v:α):atI (xs++ [v]) (-1)=some v:=by
 have hl:(xs++ [v]).length=xs.length+1:=by simp
 have e:ixN (xs++ [v]).length (-1)=some xs.length:=by
  unfold ixN
  rw [hl,if_neg (by decide),if_pos (by omega)]
  congr 1
  omega
 unfold atI
 rw [e]
 show (xs++ [v])[xs.length]? =some v
 simp
def zkl (b:Expr):Prop:=∀o i,subscripted b false o i=operate [o,i] (getItem o i)
def IxR (X:Cx)(r:R2):Prop:=
 ∀(value slice:Expr) (pins:List (Addr ×Obj)) (s:Shared) (σ:St) (H:Hp) (x y:V) (v u:Value) (Q:VK),Inv X pins σ H s→RelV x v→RelV y u→r x y H Q→
  subscripted slice false v u=operate [v,u] (getItem v u)→wpAny (model X.prog X.w) X.A (subscriptTail value slice v u) (EP X pins σ Q) X.xe s
def MtR (X:Cx)(id:String)(r:V→List V→Hp→VK→Prop):Prop:=
 ∀(pins:List (Addr ×Obj)) (s:Shared) (σ:St) (H:Hp) (x:V) (xs:List V) (v:Value) (us:List Value) (Q:VK),Inv X pins σ H s→RelV x v→Vals xs us→r x xs H Q→
  wpAny (model X.prog X.w) X.A (call (.builtin id) (v::us)) (EP X pins σ Q) X.xe s
section
variable {X:Cx}{a b:Expr}{ta tb:TE}{pos:Pos}
theorem IxR.or {r r':R2}(h:IxR X r)(h':IxR X r'):IxR X (fun x y H Q=>r x y H Q∨r' x y H Q):=by
 intro value slice pins s σ H x y v u Q I rx ry q hs
 rcases q with q | q
 ·exact h value slice pins s σ H x y v u Q I rx ry q hs
 ·exact h' value slice pins s σ H x y v u Q I rx ry q hs
theorem MtR.or {id:String}{r r':V→List V→Hp→VK→Prop}(h:MtR X id r)(h':MtR X id r'):MtR X id (fun x xs H Q=>r x xs H Q∨r' x xs H Q):=by
 intro pins s σ H x xs v us Q I rx rs q
 rcases q with q | q
 ·exact h pins s σ H x xs v us Q I rx rs q
 ·exact h' pins s σ H x xs v us Q I rx rs q
theorem zm {r:R2}(hr:IxR X r)(ha:PE X a ta)(hb:PE X b tb)(hs:zkl b):PE X (.Subscript a b pos) (tOp r ta tb):=by
 intro pins s σ H Q I h
 exact Subscript_ (binT ha hb I h fun v u s2 x y H2 I2 rx ry q=>hr a b pins s2 σ H2 x y v u Q I2 rx ry q (hs _ _))
def rIxL (K:PySem.W.Frag):R2:=fun x y H Q=>∃p xs i v,x=.ref p∧y=.int i∧SqL K H p xs∧atI xs i=some v∧Q v H
def rIxT (K:PySem.W.Frag):R2:=fun x y H Q=>∃p xs i v,x=.ref p∧y=.int i∧SqT K H p xs∧atI xs i=some v∧Q v H
def rIxS:R2:=fun x y H Q=>∃z i c,x=.str z∧y=.int i∧z.length≤sizeLine∧atI z.cps.toList i=some c∧Q (.str ⟨#[c]⟩) H
theorem zB:IxR X (rIxL X.K):=by
 intro value slice pins s σ H x y v u Q I rx ry h hs
 obtain ⟨p,xs,i,z,rfl,rfl,hq,he,q⟩:=h
 cases rx
 obtain ⟨t,rfl⟩:=ry
 obtain ⟨its,r,pl,hz⟩:=I.list hq
 obtain ⟨j,h1,h2,h3,h4,h5⟩:=zfw he
 obtain ⟨w,ew,rw'⟩:=r.get h2
 have hl:=r.length
 have hn:=zez
 have fin:EP X pins σ Q w s:=⟨z,H,I,rw',q⟩
 by_cases h0:0≤i
 ·have hj:i.toNat=j:=by
   rw [seqIndex_of h0 h5] at h1
   exact Option.some.inj h1
  exact item_listR pl.isList h0 (by omega) (by rw [hj];simpa using ew) fin hs
 ·have hj:(i+(its.toArray.size:Int)).toNat=j:=by
   rw [seqIndex_neg (by omega) h4] at h1
   rw [List.size_toArray,←hl]
   exact Option.some.inj h1
  exact subscriptTail_builtinR (x:=w) pl.isList.typeIs slot_list_getitem.lookup
   (wpAny_getItem_list_neg (Q:=fun r s'=>r=w∧EP X pins σ Q r s') pl.isList (by omega) (by rw [List.size_toArray] <;> omega) (by omega) (by rw [hj];simpa using ew) ⟨rfl,fin⟩) hs
theorem zA:IxR X (rIxT X.K):=by
 intro value slice pins s σ H x y v u Q I rx ry h hs
 obtain ⟨p,xs,i,z,rfl,rfl,hq,he,q⟩:=h
 cases rx
 obtain ⟨t,rfl⟩:=ry
 obtain ⟨its,r,pl,hz⟩:=I.tuple hq
 obtain ⟨j,h1,h2,h3,h4,h5⟩:=zfw he
 obtain ⟨w,ew,rw'⟩:=r.get h2
 have hl:=r.length
 have hn:=zez
 have fin:EP X pins σ Q w s:=⟨z,H,I,rw',q⟩
 exact subscriptTail_builtinR (x:=w) pl.typeIs slot_tuple_getitem.lookup
  (getItem_tuple (j:=j) (Q:=fun r s'=>r=w∧EP X pins σ Q r s') pl (by omega) (by omega) (by rw [List.size_toArray,←hl];exact h1) (by simpa using ew) ⟨rfl,fin⟩) hs
theorem ziJ:IxR X rIxS:=by
 intro value slice pins s σ H x y v u Q I rx ry h hs
 obtain ⟨z,i,c,rfl,rfl,hz,he,q⟩:=h
 obtain ⟨t,rfl⟩:=rx
 obtain ⟨t',rfl⟩:=ry
 obtain ⟨j,h1,h2,h3,h4,h5⟩:=zfw he
 have hl:z.cps.toList.length=z.length:=by simp [Str.length]
 rw [hl] at h1 h4 h5
 have hn:=zez
 exact tail_any (typeIs_str s z t) slot_str_getitem.lookup (getItem_str (c:=c) (by
  have e1:decide (i < -(2 ^ 63:Int))=false:=decide_eq_false (by omega)
  have e2:decide (i≥2 ^ 63)=false:=decide_eq_false (by omega)
  rw [e1,e2,Bool.or_false]) (by rw [h1];simpa using h2) ⟨.str ⟨#[c]⟩,H,I.tok _,⟨_,rfl⟩,q⟩) hs
def rIx (K:PySem.W.Frag):R2:=fun x y H Q=>rIxL K x y H Q∨rIxT K x y H Q∨rIxS x y H Q
theorem Inv.lst {pins:List (Addr ×Obj)}{σ:St}{H:Hp}{s:Shared}{p:Addr}{xs:List V}(I:Inv X pins σ H s)(h:H p=some (.lst xs)):
  ∃(its:List Value) (n:Nat),Vals xs its∧s.heap.get? p=some {cls:=.type "list",data:=.seq its.toArray n}∧xs.length≤sizeLine:=by
 obtain ⟨z,its,n,r,e⟩:=I.hok p _ h
 exact ⟨its,n,r,e,z⟩
def zns:V→V→V→Hp→(Hp→Prop)→Prop:=fun o i v H Q=>∃p xs k j,o=.ref p∧i=.int k∧H p=some (.lst xs)∧ixN xs.length k=some j∧Q (upd H p (.lst (xs.set j v)))
theorem zk9 (i:Int)(n d:Nat):max 0 (min (if i < 0 then i+(n:Int) else i) (n:Int))=((HT.sIx n d (some i):Nat):Int):=by
 simp only [HT.sIx]
 by_cases h:i < 0
 ·simp only [h,if_true] <;> omega
 ·simp only [h,if_false] <;> omega
theorem zfy (lo hi:Option Int)(n:Nat):(sliceBounds lo hi none n).1=((HT.sIx n 0 lo:Nat):Int)∧(sliceBounds lo hi none n).2.1=((HT.sIx n n hi:Nat):Int)∧(sliceBounds lo hi none n).2.2=1:=by
 refine ⟨?_,?_,rfl⟩
 ·cases lo with
  | none=>simp [sliceBounds,HT.sIx]
  | some i=>(simp only [sliceBounds,Option.getD_none,show (1:Int) > 0 by decide,if_true];exact zk9 i n 0)
 ·cases hi with
  | none=>simp [sliceBounds,HT.sIx]
  | some i=>(simp only [sliceBounds,Option.getD_none,show (1:Int) > 0 by decide,if_true];exact zk9 i n n)
theorem zeD (its:List Value)(lo hi:Option Int):slicePick its.toArray lo hi none=((its.drop (HT.sIx its.length 0 lo)).take (HT.sIx its.length its.length hi - HT.sIx its.length 0 lo)).toArray:=by
 obtain ⟨h1,h2,h3⟩:=zfy lo hi its.toArray.size
 unfold slicePick
 rw [h1,h2,h3]
 simp only [sliceRange_one,pick_run,List.size_toArray] <;> rfl
def rSlL (K:PySem.W.Frag):V→Option Int→Option Int→Hp→VK→Prop:=fun x lo hi H Q=>∃a xs,x=.ref a∧SqL K H a xs∧∀p,H p=none→Q (.ref p) (upd H p (.lst (cutV xs lo hi)))
theorem zbC:SlR X (rSlL X.K):=by
 intro pins s σ H x v vl vu lo hi sl Q I rx hs pl pu h
 obtain ⟨a,xs,rfl,hx,q⟩:=h
 cases rx
 obtain ⟨its,r,ht,hz⟩:=I.list hx
 have hlen:=r.length
 refine ⟨"list",_,slot_list_getitem.lookup,ht.isList.typeIs,?_⟩
 refine wpAny_getItem_list_slice ht.isList hs pl pu .none (by simp) ?_ (by rw [List.size_toArray] <;> omega)
 rw [zeD,←hlen]
 refine ⟨.ref s.heap.objs.size,_,I.laid (t':=s.toks) (o:=.lst (cutV xs lo hi)) (fun b ob q=>Heap.get?_push_of_some _ q) (Nat.le_refl _) ?_,rfl,q _ (I.hok.fresh (Nat.le_refl _))⟩
 exact ⟨Nat.le_trans (zfY xs lo hi) hz,_,0,(r.drop (HT.sIx xs.length 0 lo)).take (HT.sIx xs.length xs.length hi - HT.sIx xs.length 0 lo),Heap.get?_push_size _ rfl⟩
def zes:V→Bool
 | .non=>true
 | .bl _=>true
 | .int _=>true
 | .str _=>true
 | _=>false
def eqV:V→V→Bool
 | .non,.non=>true
 | .bl a,.bl b=>a==b
 | .bl a,.int b=>(if a then 1 else 0)==b
 | .int a,.bl b=>a==(if b then 1 else 0)
 | .int a,.int b=>a==b
 | .str a,.str b=>a==b
 | _,_=>false
theorem zlS {A:Around}{s:Shared}{y x:V}{u v:Value}(ry:RelV y u)(rx:RelV x v)(fy:zes y=true)(fx:zes x=true):SeqAt.EqAt A s u v (eqV y x):=by
 cases y with
 | non=>
  cases ry
  cases x with
  | non=>cases rx;exact SeqAt.EqAt.same _
  | bl b=>cases rx;exact SeqAt.EqAt.none_bool b
  | int b=>obtain ⟨t,rfl⟩:=rx;exact SeqAt.EqAt.none_int b t
  | str b=>obtain ⟨t,rfl⟩:=rx;exact SeqAt.EqAt.none_str b t
  | _=>exact absurd (show false=true from fx) Bool.false_ne_true
 | bl a=>
  cases ry
  cases x with
  | non=>cases rx;exact SeqAt.EqAt.bool_none a
  | bl b=>cases rx;exact SeqAt.EqAt.bool_bool a b
  | int b=>obtain ⟨t,rfl⟩:=rx;exact SeqAt.EqAt.bool_int a b t
  | str b=>obtain ⟨t,rfl⟩:=rx;exact SeqAt.EqAt.bool_str a b t
  | _=>exact absurd (show false=true from fx) Bool.false_ne_true
 | int a=>
  obtain ⟨t',rfl⟩:=ry
  cases x with
  | non=>cases rx;exact SeqAt.EqAt.int_none a t'
  | bl b=>cases rx;exact SeqAt.EqAt.int_bool a t' b
  | int b=>obtain ⟨t,rfl⟩:=rx;exact SeqAt.EqAt.int_int a t' b t
  | str b=>obtain ⟨t,rfl⟩:=rx;exact SeqAt.EqAt.int_str a t' b t
  | _=>exact absurd (show false=true from fx) Bool.false_ne_true
 | str a=>
  obtain ⟨t',rfl⟩:=ry
  cases x with
  | non=>cases rx;exact SeqAt.EqAt.str_none a t'
  | bl b=>cases rx;exact SeqAt.EqAt.str_bool a t' b
  | int b=>obtain ⟨t,rfl⟩:=rx;exact SeqAt.EqAt.str_int a t' b t
  | str b=>obtain ⟨t,rfl⟩:=rx;exact SeqAt.EqAt.str_str a t' b t
  | _=>exact absurd (show false=true from fx) Bool.false_ne_true
 | _=>exact absurd (show false=true from fy) Bool.false_ne_true
def eqU (x:V)(u:Value):Bool:=match u with
 | .none=>eqV .non x
 | .bool b=>eqV (.bl b) x
 | .int i _=>eqV (.int i) x
 | .str z _=>eqV (.str z) x
 | _=>false
def inV (x:V)(xs:List V):Bool:=xs.any fun y=>eqV y x
def rIn (K:PySem.W.Frag)(neg:Bool):R2:=fun x y H Q=>∃p xs,y=.ref p∧(SqL K H p xs∨SqT K H p xs)∧zes x=true∧xs.all zes=true∧Q (.bl (if neg then !inV x xs else inV x xs)) H
theorem zI:za4 X (.builtin "len") (fun xs H Q=>∃p ys,xs=[.ref p]∧(SqL X.K H p ys∨SqT X.K H p ys)∧Q (.int ys.length) H):=by
 intro pins s σ H xs us Q I r h
 obtain ⟨p,ys,rfl,hq,q⟩:=h
 obtain ⟨u,rfl,rx⟩:=vals1 r
 cases rx
 have hn:=zez
 rcases hq with hq | hq
 ·obtain ⟨its,r',pl,hz⟩:=I.list hq
  have hlen:=r'.length
  exact Calls.call_len_list pl.isList (by simp only [List.size_toArray] <;> omega) ⟨.int ys.length,H,I.tok _,⟨s.toks+1,by rw [List.size_toArray,hlen]⟩,q⟩
 ·obtain ⟨its,r',pl,hz⟩:=I.tuple hq
  have hlen:=r'.length
  exact len_tuple pl (by simp only [List.size_toArray] <;> omega) ⟨.int ys.length,H,I.tok _,⟨s.toks+1,by rw [List.size_toArray,hlen]⟩,q⟩
theorem zb3:za4 X (.builtin "len") (fun xs H Q=>∃z,xs=[.str z]∧z.length≤sizeLine∧Q (.int z.length) H):=by
 intro pins s σ H xs us Q I r h
 obtain ⟨z,rfl,hz,q⟩:=h
 obtain ⟨u,rfl,t,rfl⟩:=vals1 r
 have hn:=zez
 exact len_str (by omega) ⟨.int z.length,H,I.tok _,⟨_,rfl⟩,q⟩
theorem za4.or {f:Value}{r r':List V→Hp→VK→Prop}(h:za4 X f r)(h':za4 X f r'):za4 X f (fun xs H Q=>r xs H Q∨r' xs H Q):=by
 intro pins s σ H xs us Q I rs q
 rcases q with q | q
 ·exact h pins s σ H xs us Q I rs q
 ·exact h' pins s σ H xs us Q I rs q
def tyV (K:PySem.W.Frag)(T:String)(x:V)(H:Hp):Prop:=match x with
 | .str _=>T= "str"
 | .int _=>T= "int"
 | .ref p=>(T= "list" ∧∃xs,SqL K H p xs)∨(T= "tuple" ∧∃o,K.lookup p=some o∧o.cls=.type "tuple" ∧o.dict=none)∨
   (T= "dict" ∧((∃kvs,H p=some (.dK kvs))∨∃kvs,H p=some (.dT kvs)))∨(T= "set" ∧∃S n,H p=some (.set S n))
 | _=>False
theorem zjD {pins:List (Addr ×Obj)}{σ:St}{H:Hp}{s:Shared}{T:String}{x:V}{v:Value}(I:Inv X pins σ H s)(r:RelV x v)(ty:tyV X.K T x H):
  s.TypeIs v T∧∀a,v=.ref a→∃ob,s.heap.get? a=some ob∧ob.dict=none:=by
 cases x with
 | str z=>
  obtain ⟨t,rfl⟩:=r
  cases (show T= "str" from ty)
  exact ⟨typeIs_str s z t,fun _ e=>nomatch e⟩
 | int i=>
  obtain ⟨t,rfl⟩:=r
  cases (show T= "int" from ty)
  exact ⟨typeIs_int s i t,fun _ e=>nomatch e⟩
 | ref p=>
  cases r
  rcases ty with ⟨rfl,xs,hq⟩ | ⟨rfl,o,hk,hc,hd⟩ | ⟨rfl,hk⟩ | ⟨rfl,S,n,hk⟩
  ·obtain ⟨its,_,pl,_⟩:=I.list hq
   refine ⟨pl.isList.typeIs,fun a e=>?_⟩
   cases e
   obtain ⟨o,n,e,c,hd,_⟩:=pl
   exact ⟨o,e,hd⟩
  ·refine ⟨⟨o,I.kIn p o hk,hc⟩,fun a e=>?_⟩
   cases e
   exact ⟨o,I.kIn _ o hk,hd⟩
  ·have z:∃o,s.heap.get? p=some o∧o.ExactDict:=by
    rcases hk with ⟨kvs,hk⟩ | ⟨kvs,hk⟩
    ·obtain ⟨_,_,_,_,o,_,_,e,ex,_⟩:=I.hok p _ hk
     exact ⟨o,e,ex⟩
    ·obtain ⟨_,_,_,_,o,_,_,e,ex,_⟩:=I.hok p _ hk
     exact ⟨o,e,ex⟩
   obtain ⟨o,e,ex⟩:=z
   refine ⟨⟨o,e,ex.1⟩,fun a e2=>?_⟩
   cases e2
   exact ⟨o,e,ex.2.1⟩
  ·obtain ⟨o,_,_,_,e,ex,_⟩:=I.hok p _ hk
   refine ⟨⟨o,e,ex.1⟩,fun a e2=>?_⟩
   cases e2
   exact ⟨o,e,ex.2.1⟩
 | _=>exact False.elim ty
def tBM0 (K:PySem.W.Frag)(T:String)(r:V→List V→Hp→VK→Prop)(to:TE):TE:=fun σ H Q=>to σ H fun x H1=>tyV K T x H1∧r x [] H1 Q
def tBM (K:PySem.W.Frag)(T:String)(r:V→List V→Hp→VK→Prop)(to:TE)(t:TA):TE:=fun σ H Q=>to σ H fun x H1=>tyV K T x H1∧t σ H1 fun xs H2=>r x xs H2 Q
variable {o e:Expr}{es:List Expr}{to:TE}{t:TA}{name:Str}{apos cpos:Pos}{T id:String}{r:V→List V→Hp→VK→Prop}
theorem zlu (pa:PlainAttrs T)(slot:Slot T name id)(hty:typeOf (.builtin id)=pure (.type "method_descriptor")) (hm:MtR X id r) (ho:PE X o to)
  (hbase:attributeBase o name X.env (eval o X.env)=eval o X.env:=by rfl) (hline:(apos.endLine==cpos.line)=true:=by rfl):PE X (.Call (.Attribute o name apos) [] [] cpos) (tBM0 X.K T r to):=by
 intro pins s σ H Q I h
 refine wpAny_Call_method0_late hbase hline (thn (ho pins s σ H _ I h) fun v s1 ⟨x,H1,I1,r1,ty,q1⟩=>?_)
 obtain ⟨h1,h2⟩:=zjD I1 r1 ty
 exact ⟨T,id,pa,slot,hty,h1,h2,Calls.callWith_builtin rfl (PySem.evalArgs_none (hm pins s1 σ H1 x [] v [] Q I1 r1 .nil q1))⟩
theorem zcv (pa:PlainAttrs T)(slot:Slot T name id)(hty:typeOf (.builtin id)=pure (.type "method_descriptor")) (hm:MtR X id r) (ho:PE X o to) (ha:PA X (e::es) t)
  (hbase:attributeBase o name X.env (eval o X.env)=eval o X.env:=by rfl)
  (hfew:((backTo cpos (starEach (e::es) X.env)).all (fun x=>!x.1) && (backToKw cpos (keywordEach [] X.env)).all (fun x=>x.1.isSome)
   && decide ((e::es).length+([]:List Keyword).length+(if ([]:List Keyword).isEmpty then 0 else 1) < 30))=true:=by rfl)
  (hline:(apos.endLine==cpos.line)=true:=by rfl) (hs:starEach (e::es) X.env=(false,eval e X.env)::starEach es X.env:=by rfl) (hplain:(backTo cpos (starEach es X.env)).any (·.1)=false:=by rfl):
  PE X (.Call (.Attribute o name apos) (e::es) [] cpos) (tBM X.K T r to t):=by
 intro pins s σ H Q I h
 refine wpAny_Call_method_late hbase hfew hline rfl (thn (ho pins s σ H _ I h) fun v s1 ⟨x,H1,I1,r1,ty,q1⟩=>?_)
 obtain ⟨h1,h2⟩:=zjD I1 r1 ty
 refine ⟨T,id,pa,slot,hty,h1,h2,?_⟩
 have hA:=ha cpos pins s1 σ H1 _ I1 q1
 rw [hs] at hA ⊢
 refine Calls.callWith_builtin (by show (false || (backTo cpos (starEach es X.env)).any (·.1))=false;rw [hplain] <;> rfl) (Calls.evalArgs_plain ?_)
 exact thn hA fun us s2 ⟨vs,H2,I2,r2,q2⟩=>hm pins s2 σ H2 x vs v us Q I2 r1 r2 q2
end
end L2
namespace L2
open PySem PySem.Spec PyProof.Rows
def MtM (X:Cx)(id:String)(r:V→List V→Hp→VK→Prop):Prop:=
 ∀(pins:List (Addr ×Obj)) (s:Shared) (σ:St) (H:Hp) (x:V) (xs:List V) (v:Value) (us:List Value) (Q:VK),Inv X pins σ H s→RelV x v→Vals xs us→r x xs H Q→
  wpAny (model X.prog X.w) X.A (call (.builtin id) (v::us)) (EP X pins σ Q) X.xe s
theorem Vals.one {x:V}{us:List Value}(h:Vals [x] us):∃u,us=[u]∧RelV x u:=by
 cases h with
 | cons r t=>cases t;exact ⟨_,rfl,r⟩
theorem Vals.two {x y:V}{us:List Value}(h:Vals [x,y] us):∃u v,us=[u,v]∧RelV x u∧RelV y v:=by
 cases h with
 | cons r t=>obtain ⟨v,rfl,q⟩:=Vals.one t;exact ⟨_,_,rfl,r,q⟩
theorem Vals.zero:∀{us:List Value},Vals [] us→us=[]
 | _,.nil=>rfl
theorem Vals.dropLast {xs:List V}{us:List Value}(h:Vals xs us):Vals xs.dropLast us.dropLast:=by
 induction h with
 | nil=>exact .nil
 | cons r t ih=>
  cases t with
  | nil=>exact .nil
  | cons q t'=>exact .cons r ih
theorem Vals.eraseIdx:∀{xs:List V} {us:List Value} (i:Nat),Vals xs us→Vals (xs.eraseIdx i) (us.eraseIdx i)
 | _,_,_,.nil=>.nil
 | _,_,0,.cons _ t=>t
 | _,_,i+1,.cons r t=>.cons r (Vals.eraseIdx i t)
theorem Vals.reverse {xs:List V}{us:List Value}(h:Vals xs us):Vals xs.reverse us.reverse:=by
 induction h with
 | nil=>exact .nil
 | cons r t ih=>rw [List.reverse_cons,List.reverse_cons];exact Vals.append ih (.cons r .nil)
theorem Vals.rep {xs:List V}{us:List Value}(h:Vals xs us):∀k:Nat,Vals (List.replicate k xs).flatten (List.replicate k us).flatten
 | 0=>.nil
 | k+1=>by
  rw [List.replicate_succ,List.replicate_succ,List.flatten_cons,List.flatten_cons]
  exact Vals.append h (Vals.rep h k)
theorem zgt {α:Type}(l:List α):l.eraseIdx (l.length - 1)=l.dropLast:=by
 induction l with
 | nil=>rfl
 | cons a r ih=>
  cases r with
  | nil=>rfl
  | cons b r=>
   have e:(a::b::r).length - 1=((b::r).length - 1)+1:=by
    have h1:(a::b::r).length=r.length+2:=rfl
    have h2:(b::r).length=r.length+1:=rfl
    omega
   rw [e,List.eraseIdx_cons_succ,ih]
   all_goals rfl
theorem foldl_rep (its:List Value):∀(k:Nat) (acc:List Value),
  List.foldl (fun x1 x2=>x1++x2) acc.toArray (List.replicate k its.toArray)=(acc++(List.replicate k its).flatten).toArray
 | 0,acc=>by simp
 | k+1,acc=>by
  have e:acc.toArray++its.toArray=(acc++its).toArray:=by simp
  have e2:(acc++its)++(List.replicate k its).flatten=acc++(List.replicate (k+1) its).flatten:=by
   rw [List.replicate_succ,List.flatten_cons,List.append_assoc]
  rw [←e2,←foldl_rep its k (acc++its),←e,List.replicate_succ,List.foldl_cons]
section
variable {X:Cx}{pins:List (Addr ×Obj)}{σ:St}{H:Hp}{s:Shared}{l b:Addr}{xs ys zs:List V}
theorem Inv.lset {its its':List Value}{n:Nat}{f:Array Value→Array Value}{t':Nat}(I:Inv X pins σ H s)(hH:H l=some (.lst xs))
  (e:s.heap.get? l=some {cls:=.type "list",data:=.seq its.toArray n}) (hf:f its.toArray=its'.toArray) (hv:Vals ys its') (hz:ys.length≤sizeLine):
  Inv X pins σ (upd H l (.lst ys)) {s with heap:=s.heap.update l (Obj.mapSeq f),toks:=t'}:=by
 have q:=PySem.IsL.update e f
 rw [hf] at q
 refine I.write (x:=l) (e:=l) (by rw [hH];exact trivial) (.inl rfl) (fun b' u hb hu=>(Heap.get?_update_other s.heap (Obj.mapSeq f) (Ne.symm hb)).trans hu) ⟨_,q⟩ ?_
 exact ⟨hz,its',_,hv,q⟩
theorem Inv.lnew {its:List Value}{t':Nat}(I:Inv X pins σ H s)(hv:Vals ys its)(hz:ys.length≤sizeLine):
  Inv X pins σ (upd H s.heap.objs.size (.lst ys)) {s with heap:=s.heap.push {cls:=.type "list",data:=.seq its.toArray},toks:=t'}:=
 I.laid (fun _ _ q=>Heap.get?_push_of_some _ q) (Nat.le_refl _) ⟨hz,its,0,hv,Heap.get?_push_size _ rfl⟩
theorem Inv.fresh (I:Inv X pins σ H s):H s.heap.objs.size=none:=I.hok.fresh (Nat.le_refl _)
theorem Inv.lstM (I:Inv X pins σ H s)(hH:H l=some (.lst xs)):xs.length≤sizeLine∧∃(its:List Value) (n:Nat),Vals xs its∧xs.length=its.length∧s.heap.get? l=some {cls:=.type "list",data:=.seq its.toArray n}:=by
 obtain ⟨z,its,n,r,e⟩:=I.hok l _ hH
 exact ⟨z,its,n,r,r.length,e⟩
theorem zfV {n:Nat}(h:n≤sizeLine):Builtin.List.listTooLong n=false:=by
 unfold Builtin.List.listTooLong
 exact decide_eq_false (by omega)
end
section
variable {X:Cx}
def zkG:V→List V→Hp→VK→Prop:=fun x vs H Q=>∃l xs y,x=.ref l∧vs=[y]∧H l=some (.lst xs)∧xs.length < sizeLine∧Q .non (upd H l (.lst (xs++ [y])))
theorem zar:MtM X "list.append" zkG:=by
 intro pins s σ H x vs v us Q I rx rv h
 obtain ⟨l,xs,y,rfl,rfl,hH,hz,q⟩:=h
 cases rx
 obtain ⟨u,rfl,ru⟩:=rv.one
 obtain ⟨z,its,n,r,hl,e⟩:=I.lstM hH
 refine call_meets F.slot_list_append ⟨_,e,rfl⟩ F.entry_list_append (F.args_list_append_2 _ _) (PySem.list_append l its.toArray n u (by rw [List.size_toArray];omega)) ⟨e,?_⟩
 refine ⟨.non,_,I.lset (its':=its++ [u]) hH e (by simp) (r.append (.cons ru .nil)) ?_,rfl,q⟩
 rw [List.length_append,List.length_singleton]
 omega
def zj1:V→List V→Hp→VK→Prop:=fun x vs H Q=>∃l b xs zs,x=.ref l∧vs=[.ref b]∧H l=some (.lst xs)∧H b=some (.lst zs)∧xs.length+zs.length≤sizeLine∧Q .non (upd H l (.lst (xs++zs)))
theorem zig:MtM X "list.extend" zj1:=by
 intro pins s σ H x vs v us Q I rx rv h
 obtain ⟨l,b,xs,zs,rfl,rfl,hH,hB,hz,q⟩:=h
 cases rx
 obtain ⟨u,rfl,ru⟩:=rv.one
 cases ru
 obtain ⟨z,its,n,r,hl,e⟩:=I.lstM hH
 obtain ⟨z2,its2,n2,r2,hl2,e2⟩:=I.lstM hB
 have hsz:its.toArray.size+its2.toArray.size≤sizeLine:=by rw [List.size_toArray,List.size_toArray];omega
 have hlong:¬(!its.toArray.isEmpty && Builtin.List.listTooLong (its.toArray.size+its2.toArray.size))=true:=by
  rw [zfV hsz,Bool.and_false]
  exact Bool.false_ne_true
 refine call_meets F.slot_list_extend ⟨_,e,rfl⟩ F.entry_list_extend (F.args_list_extend_2 _ _)
  (AutoSeq1.list_extend_list_list_0 l its.toArray n b its2.toArray n2 hlong (by rw [List.size_toArray];omega) (by omega)) ⟨e,e2,?_⟩
 refine ⟨.non,_,I.lset (its':=its++its2) hH e (by simp) (r.append r2) ?_,rfl,q⟩
 rw [List.length_append]
 omega
def rPop:V→List V→Hp→VK→Prop:=fun x vs H Q=>∃l xs y,x=.ref l∧vs=[]∧H l=some (.lst xs)∧xs[xs.length - 1]? =some y∧Q y (upd H l (.lst xs.dropLast))
theorem zlp:MtM X "list.pop" rPop:=by
 intro pins s σ H x vs v us Q I rx rv h
 obtain ⟨l,xs,y,rfl,rfl,hH,hy,q⟩:=h
 cases rx
 have hus:=rv.zero
 subst hus
 obtain ⟨z,its,n,r,hl,e⟩:=I.lstM hH
 obtain ⟨u,hu,ru⟩:=r.get hy
 have hy':its.toArray[its.toArray.size - 1]? =some u:=by
  show its.toArray[its.length - 1]? =some u
  rw [←Array.getElem?_toList,←hl]
  exact hu
 refine call_meets F.slot_list_pop ⟨_,e,rfl⟩ F.entry_list_pop (F.args_list_pop_1 _) (MeetsSeq.list_pop_last l its.toArray n u hy' (by rw [List.size_toArray];omega)) ⟨e,?_⟩
 refine ⟨y,_,I.lset (its':=its.dropLast) hH e ?_ r.dropLast ?_,ru,q⟩
 ·show its.toArray.eraseIdxIfInBounds (its.toArray.size - 1)=its.dropLast.toArray
  rw [List.size_toArray,List.eraseIdxIfInBounds_toArray,zgt]
 ·rw [List.length_dropLast]
  omega
def zm4:V→List V→Hp→VK→Prop:=fun x vs H Q=>∃l xs i k y,x=.ref l∧vs=[.int i]∧H l=some (.lst xs)∧ -(2 ^ 63)≤i∧i < 2 ^ 63∧seqIndex? i xs.length=some k∧xs[k]? =some y∧Q y (upd H l (.lst (xs.eraseIdx k)))
def zmK:V→List V→Hp→VK→Prop:=fun x vs H Q=>∃l xs,x=.ref l∧vs=[]∧H l=some (.lst xs)∧Q .non (upd H l (.lst xs.reverse))
def zm6:V→List V→Hp→VK→Prop:=fun x vs H Q=>∃l xs,x=.ref l∧vs=[]∧H l=some (.lst xs)∧Q .non (upd H l (.lst []))
def rCat:R2:=fun x y H Q=>∃l b xs zs,x=.ref l∧y=.ref b∧H l=some (.lst xs)∧H b=some (.lst zs)∧xs.length+zs.length≤sizeLine∧∀p,H p=none→Q (.ref p) (upd H p (.lst (xs++zs)))
theorem zbk:OpR X (binaryOp .Add) rCat:=by
 intro pins s σ H x y v u Q I rx ry h
 obtain ⟨l,b,xs,zs,rfl,rfl,hH,hB,hz,q⟩:=h
 cases rx
 cases ry
 obtain ⟨z,its,n,r,hl,e⟩:=I.lstM hH
 obtain ⟨z2,its2,n2,r2,hl2,e2⟩:=I.lstM hB
 refine PySem.P.add_list e e2 ?_ (by rw [List.size_toArray,List.size_toArray];omega)
 have ea:its.toArray++its2.toArray=(its++its2).toArray:=by simp
 rw [ea]
 exact ⟨.ref _,_,I.lnew (t':=s.toks) (r.append r2) (by rw [List.length_append];omega),rfl,q _ I.fresh⟩
def rRep:R2:=fun x y H Q=>∃l k xs,x=.ref l∧y=.int k∧H l=some (.lst xs)∧ -(2 ^ 63)≤k∧k < 2 ^ 63∧xs.length * k.toNat≤sizeLine∧
 ∀p,H p=none→Q (.ref p) (upd H p (.lst (List.replicate k.toNat xs).flatten))
theorem len_rep {α:Type}(xs:List α)(k:Nat):(List.replicate k xs).flatten.length=k * xs.length:=by
 induction k with
 | zero=>simp
 | succ k ih=>rw [List.replicate_succ,List.flatten_cons,List.length_append,ih,Nat.succ_mul,Nat.add_comm]
theorem zls:OpR X (binaryOp .Mult) rRep:=by
 intro pins s σ H x y v u Q I rx ry h
 obtain ⟨l,k,xs,rfl,rfl,hH,h1,h2,hz,q⟩:=h
 cases rx
 obtain ⟨t,rfl⟩:=ry
 obtain ⟨z,its,n,r,hl,e⟩:=I.lstM hH
 have hlen:its.toArray.size * k.toNat≤sizeLine:=by rw [List.size_toArray,←hl];exact hz
 have hcap:¬its.toArray.size * k.toNat > (2 ^ 63 - 1) / 8:=by
  have:(sizeLine:Nat)≤(2 ^ 63 - 1) / 8:=by decide
  omega
 have hfit:¬(!Builtin.List.listFitsIndex k)=true:=by
  rw [fitsIndex_both h1 h2]
  exact Bool.false_ne_true
 have hlong:¬Builtin.List.listTooLong (its.toArray.size * k.toNat)=true:=by
  rw [zfV hlen]
  exact Bool.false_ne_true
 have hnew:List.foldl (fun x1 x2=>x1++x2) #[] (List.replicate (if its.toArray.isEmpty=true then 0 else k.toNat) its.toArray)=(List.replicate k.toNat its).flatten.toArray:=by
  have f0:∀m:Nat,List.foldl (fun x1 x2=>x1++x2) #[] (List.replicate m its.toArray)=(List.replicate m its).flatten.toArray:=fun m=>by
   have:=foldl_rep its m []
   rw [List.nil_append] at this
   exact this
  rw [f0]
  cases its with
  | nil=>simp
  | cons a r'=>rw [if_neg (by simp)]
 refine wpAny_binaryOp_repeat_ref (T:= "list") (U:= "int") (by decide) ⟨_,e,rfl⟩ (fun s'=>typeIs_int s' k t) noFill_list_mul F.fills_int_mul F.slot_int_rmul repeat_list F.slot_int_index.lookup
  (call_meets F.slot_int_rmul (typeIs_int s k t) F.entry_int_rmul (F.args_int_rmul_2 _ _) (int___rmul___int_list k t l its.toArray n)
   ⟨e,rfl,⟨_,e,rfl⟩,call_meets F.slot_list_mul ⟨_,e,rfl⟩ F.entry_list_mul (F.args_list_mul_2 _ _) (AutoListH.list___mul___list_int_3 l its.toArray n k t hfit hcap hlong) ⟨e,?_⟩⟩)
 rw [hnew]
 exact ⟨.ref _,_,I.lnew (t':=s.toks) (r.rep k.toNat) (by rw [len_rep,Nat.mul_comm];exact hz),rfl,q _ I.fresh⟩
end
section
variable {prog:Program}{w:World}{A:Around}{E:Value→Shared→Prop}{s:Shared}
end
section
variable {X:Cx}
end
end L2
namespace Att
open PySem PySem.W PySem.Calls PyProof.Rows
theorem zdW {P:Params}{h:Heap}:∀(ns:List Int) (vs:List Value),WellAll P h vs (ns.map WData.int)→IntsAre vs ns:=by
 intro ns
 induction ns with
 | nil=>
  intro vs w
  rw [List.map_nil] at w
  cases w
  exact .nil
 | cons n ns ih=>
  intro vs w
  rw [List.map_cons] at w
  cases w with
  | cons a b=>
   cases a
   exact .cons _ _ (ih _ b)
theorem zhM {l:OpenLaw}{n:Nat}(hn:l.most=some n){P:Params}{h:Heap}{args:List WData}{vals:List Value}
  (hpre:l.row.toRowW.claim.pre args=true) (hwl:WellAll P h vals args):
  ∃a vs ns,vals=[Value.ref a]∧args=[WData.list (ns.map WData.int)]∧h.get? a=some {cls:=.type "list",data:=.seq vs.toArray}∧IntsAre vs ns∧ns.length≤n:=by
 have hsh:WShape.hasAll [] args [.list .int]=true:=(pre_splitW hpre).1
 have hc:l.pre.holds [] {args:=args}=true:=(pre_splitW hpre).2
 obtain ⟨d,r,rfl,h1,h2⟩:=hasAllW_cons hsh
 obtain rfl:=hasAllW_nil h2
 obtain ⟨xs,rfl,h3⟩:=hasW_list h1
 obtain ⟨ns,rfl⟩:=items_int h3
 have hlen:ns.length≤n:=by
  unfold OpenLaw.pre at hc
  have h4:(WTm.not (.lt (.lit (.int (n:Int))) (.len (.arg 0)))).holds [] {args:=[.list (ns.map .int)]}=true:=by
   have h4:=(holds_andW hc).1
   rw [hn] at h4
   exact h4
  have h5:=condW_of h4 (w_not (w_lt w_lit (w_len_list (w_arg rfl))))
  rw [List.length_map] at h5
  refine Nat.le_of_not_lt fun q=>?_
  have q':(n:Int) < ((ns.length:Nat):Int):=by omega
  first
   | (rw [decide_eq_true q'] at h5;exact absurd h5 (by decide))
   | (simp at h5;omega)
 cases hwl with
 | cons w1 w2=>
  cases w2
  cases w1 with
  | list ho hall=>exact ⟨_,_,ns,rfl,rfl,ho,zdW ns _ hall,hlen⟩
theorem zhV (l:OpenLaw)(args:List WData):l.row.toRowW.claim.post args (.bool true) args=true:=
 postW_of (r:=l.row.toRowW) (X:=(true==true))
  (show WShape.has [] (.bool true) .bool=true by first | rfl | decide | simp [WShape.has,WShape.arms,WShape.armsAll])
  (show (WTm.eq .res (.lit (.bool true))).value [] {args:=args,res:=some (.bool true),after:=args}=some (.bool (true==true)) from w_eq_bool (w_res rfl) w_lit) rfl
theorem attach_call {l:OpenLaw}{n:Nat}{q:Program}{loose:List Str}{XP:(Str→Option Value)→Heap→Prop}{YP:World→Heap→Prop}{d:DefRec}
  (hn:l.most=some n) (hdf:d.params.defaults=[])
  (call:∀(w:World) (s₀ s₁:Shared) (mg mb:Str→Option Value) (fa:Addr) (o:Obj) (pm cd doc:Value) (a:Addr) (vs:List Value) (ns:List Int),
   Ground q loose [] XP w s₀ mg mb s₁.heap→YP w s₁.heap→
   s₁.heap.get? fa=some o→o.data=.func (docDef d.name d.params d.body d.scope pm cd doc)→s₁.heap.CodeRec cd d.name→mg d.name=some (.ref fa)→
   s₁.heap.get? a=some {cls:=.type "list",data:=.seq vs.toArray}→IntsAre vs ns→ns.length≤n→s₁.gens= #[]→
   codeAny (model l.prog w) callerA (.call (.ref fa) ⟨[.ref a],[]⟩) (fun r s'=>r=.ok (.ret (.bool true))∧OldK s₁.heap s'.heap∧s'.os=s₁.os∧AllBare s'.gens) s₁):
  WalkO q loose XP YP l.row.toRowW d [] (fun f vs=>PySem.call f vs):=by
 intro w s₀ s₁ mg mb G Y fa o pm cd doc dV kV ho hd hcd hD hmg hg args vals as hpre hlay hrd hwl hlo
 obtain rfl:dV=.none:=Dflts.none hD hdf
 obtain rfl:kV=.none:=Dflts.noKw hD
 obtain ⟨a,vs,ns,rfl,rfl,hobj,hints,hlen⟩:=zhM hn hpre hwl
 refine enter_call (codeAny_mono (call w s₀ s₁ mg mb fa o pm cd doc a vs ns G Y ho (fd_plain hd) hcd hmg hobj hints hlen hg) fun r s' hq=>?_)
 obtain ⟨rfl,h2,h3,h4⟩:=hq
 exact ⟨.inl ⟨.bool true,.bool true,[],rfl,fun _=>rfl,.bool true,zhV l _,fun _=>⟨List.Pairwise.nil,fun _ hm=>(nomatch hm)⟩⟩,h2,h3,h4⟩
section
variable {prog:Program}{w:World}{A:Around}{E:Value→Shared→Prop}{s:Shared}{K:Frag}
def zm8 (h:Heap):Heap:={h with objs:= #[]}
def ledger (h:Heap)(L d:Addr):List (Addr ×Obj):=(List.range h.objs.size).filterMap fun a=>if a=L∨a=d then none else (h.get? a).map fun o=>(a,o)
end
end Att
namespace L2
open PySem PySem.Spec PyProof.Rows
theorem zeN:∀{vs:List Value} {ns:List Int},IntsAre vs ns→Vals (ns.map V.int) vs
 | _,_,.nil=>.nil
 | _,_,.cons n t h=>.cons ⟨t,rfl⟩ (zeN h)
def Only (H:Hp):Prop:=∀b,H b=none∨∃o xs,H b=some (.frz o (.lst xs))
theorem ziQ {P:Program}{w:World}{K:PySem.W.Frag}{mg mb:Str→Option Value}{CX:CXT}{k:Nat}{fa a:Addr}{fd:FuncData}{x:Str}{sp:Sp}{s₁:Shared}{vs:List Value}{ns:List Int}
  (KX:K.In s₁.heap) (hns:s₁.heap.Ns mainGlobals mg) (hb:s₁.heap.Ns builtinsNs mb) (hbb:∀x:Str,x≠ "__name__" →mb x=bootBuiltins x) (hlim:s₁.heap.NoLimit) (hg:s₁.gens= #[])
  (ha:s₁.heap.get? a=some {cls:=.type "list",data:=.seq vs.toArray}) (hi:IntsAre vs ns) (hl:ns.length≤sizeLine) (hr:Room k callerA)
  (F:∀base:Heap,K.In base→base.Ns mainGlobals mg→FnOk P w K mg base CX k fa fd [x] sp) (hbind:∀(s:Shared) (u:Value),BindsTo s fd ⟨[u],[]⟩ [(x,u)])
  (hsp:∀H:Hp,Only H→SqL K H a (ns.map V.int)→sp [.ref a] H (fun v _=>v=.bl true) fun _ _ _=>False)
  (hCX:∀H e s',CX [] H s₁ (fun _ _ _=>False) e s'→False):
  codeAny (model P w) callerA (.call (.ref fa) ⟨[.ref a],[]⟩) (fun r s'=>r=.ok (.ret (.bool true))∧OldK s₁.heap s'.heap∧s'.os=s₁.os∧AllBare s'.gens) s₁:=by
 have rv:=zeN hi
 have lenV:=hi.length
 have core:∀H:Hp,Only H→SqL K H a (ns.map V.int)→HOk P w H s₁.heap→(∀b,H b≠none→b=a)→(H a≠none→K.lookup a=none)→
   codeAny (model P w) callerA (.call (.ref fa) ⟨[.ref a],[]⟩) (fun r s'=>r=.ok (.ret (.bool true))∧OldK s₁.heap s'.heap∧s'.os=s₁.os∧AllBare s'.gens) s₁:=by
  intro H hO hS hok hA hK
  have base_of:∀{b:Addr} {o:Obj},s₁.heap.get? b=some o→H b=none→(hidT s₁.heap H).get? b=some o:=fun e n=>zjl e n
  have noA:∀{b:Addr} {o:Obj} {es:Array DictEntry} {ep:Nat},s₁.heap.get? b=some o→o.data=.dict es ep→H b=none:=fun {b o es ep} e d=>by
   cases q:H b with
   | none=>rfl
   | some u=>
    have e':b=a:=hA b (by rw [q];simp)
    subst e'
    rw [ha] at e;cases e
    have d':Data.seq vs.toArray _=Data.dict es ep:=d
    cases d'
  have nsK:∀{b:Addr} {m:Str→Option Value},s₁.heap.Ns b m→(hidT s₁.heap H).Ns b m:=fun {b m} ⟨o,es,ep,e,d,r⟩=>⟨o,es,ep,base_of e (noA e d),d,r⟩
  have hKb:K.In (hidT s₁.heap H):=fun b o e=>base_of (KX b o e) (by
   cases q:H b with
   | none=>rfl
   | some u=>
    have e':b=a:=hA b (by rw [q];simp)
    subst e'
    rw [hK (by rw [q];simp)] at e;cases e)
  have hM:Mod K mg (hidT s₁.heap H):=⟨hKb,nsK hns,⟨mb,nsK hb,hbb⟩,let ⟨mc,h1,h2⟩:=hlim;⟨mc,nsK h1,h2⟩⟩
  have e0:Env0 P w K mg (hidT s₁.heap H) callerA [] s₁ H:=⟨rfl,hM,fun b o e=>zkC e,Nat.le_of_eq (zia _ _),trivial,fun b hb=>absurd (show b∈([]:List Addr) from hb) (by simp),hok,.of_eq hg⟩
  refine codeAny_mono ((F _ hKb (nsK hns)).run callerA [] s₁ H ⟨[.ref a],[]⟩ [.ref a] [.ref a] _ _ hr e0 (hbind s₁ (.ref a)) (.cons rfl .nil) (hsp H hO hS)) fun r s' h=>?_
  cases r with
  | error e=>exact (hCX H e s' h).elim
  | ok fl=>
   cases fl with
   | next=>exact False.elim h
   | brk=>exact False.elim h
   | cont=>exact False.elim h
   | ret u=>
    obtain ⟨v,H',os,bare,un,hok',r',q⟩:=h
    have q':v=.bl true:=q
    subst q'
    obtain rfl:u=Value.bool true:=r'
    refine ⟨rfl,OldK.of_keep fun b o e=>?_,os,bare⟩
    cases q:H b with
    | none=>exact un.keep b o e q (by intro z;exact absurd (show b∈([]:List Addr) from z) (by simp)) (by simp)
    | some u=>
     rcases hO b with z | ⟨ob,xs,z⟩
     ·rw [q] at z;cases z
     ·have z2:=un.frzs b ob _ z
      obtain ⟨e1,_⟩:=hok b _ z
      obtain ⟨e2,_⟩:=hok' b _ z2
      rw [e] at e1;cases e1
      exact e2
 cases hk:K.lookup a with
 | some o=>
  have e:=KX a o hk
  rw [ha] at e
  cases e
  refine core (fun _=>none) (fun _=>.inl rfl) (.inr ⟨_,vs.toArray,_,hk,rfl,rfl,rfl,by rw [List.size_toArray,lenV];exact hl,by simpa using rv⟩) (fun b u z=>by have z':(none:Option HO)=some u:=z;cases z') (fun b z=>absurd rfl z) fun z=>absurd rfl z
 | none=>
  refine core (fun b=>if b=a then some (.frz {cls:=.type "list",data:=.seq vs.toArray} (.lst (ns.map V.int))) else none) (fun b=>?_) (.inl (.inr ⟨{cls:=.type "list",data:=.seq vs.toArray},if_pos rfl⟩)) (fun b u z=>?_) (fun b z=>?_) fun _=>hk
  ·by_cases hb:b=a
   ·exact .inr ⟨_,_,if_pos hb⟩
   ·exact .inl (if_neg hb)
  ·by_cases hb:b=a
   ·have z':=(if_pos hb).symm.trans z
    cases z'
    subst hb
    exact ⟨ha,by rw [List.length_map];exact hl,vs,_,rv,ha⟩
   ·have z':=(if_neg hb).symm.trans z
    cases z'
  ·by_cases hb:b=a
   ·exact hb
   ·exact absurd (if_neg hb) z
end L2
namespace L2
open PySem PySem.Spec PyProof.Rows
abbrev KOf {K:PySem.W.Frag}{h:Heap}(_:K.In h):PySem.W.Frag:=K
theorem zkM {l:PySem.W.OpenLaw}{n k:Nat}{q:Program}{loose:List Str}{XP:(Str→Option Value)→Heap→Prop}{YP:World→Heap→Prop}{d:DefRec}{K:Params→PySem.W.Frag}{CX:World→CXT}{sp:World→Sp}{x:Str}
  (hn:l.most=some n) (hn2:n≤sizeLine) (hdf:d.params.defaults=[]) (hr:Room k callerA)
  (hY:∀(w:World) (h:Heap),YP w h→(K w.params).In h)
  (F:∀(w:World) (mg:Str→Option Value) (fa:Addr) (h:Heap),(K w.params).In h→h.Ns mainGlobals mg→mg d.name=some (.ref fa)→
   ∃fd:FuncData,(∀(s:Shared) (u:Value),BindsTo s fd ⟨[u],[]⟩ [(x,u)])∧
    ∀base:Heap,(K w.params).In base→base.Ns mainGlobals mg→FnOk l.prog w (K w.params) mg base (CX w) k fa fd [x] (sp w))
  (hsp:∀(w:World) (H:Hp) (a:Addr) (ns:List Int),ns.length≤n→Only H→SqL (K w.params) H a (ns.map V.int)→sp w [.ref a] H (fun v _=>v=.bl true) fun _ _ _=>False)
  (hCX:∀(w:World) (H:Hp) (s:Shared) (e:Value) (s':Shared),CX w [] H s (fun _ _ _=>False) e s'→False):
  PySem.W.WalkO q loose XP YP l.row.toRowW d [] (fun f vs=>PySem.call f vs):=by
 refine Att.attach_call hn hdf fun w s₀ s₁ mg mb fa o pm cd doc a vs ns G Y ho hd hcd hmg hobj hints hlen hg=>?_
 have KX:=hY w _ Y
 obtain ⟨fd,hb,hF⟩:=F w mg fa _ KX G.T.g hmg
 exact ziQ KX G.T.g G.T.b G.T.builtins G.T.nolimit hg hobj hints (Nat.le_trans hlen hn2) hr hF hb (fun H hO hS=>hsp w H a ns hlen hO hS) fun H e s'=>hCX w H s₁ e s'
end L2
namespace L2
open PySem PySem.Spec PyProof.Rows
abbrev CX0:CXT:=fun _ _ _ _ _ _=>False
abbrev E0:XK:=fun _ _ _=>False
theorem zkY {X:Cx}:zbH CX0 X E0:=fun _ _ _ _ _ _ _ h=>h.elim
structure Fun (K:PySem.W.Frag)(x qual:Str)(st:Stmt)(f:Addr)(fd:FuncData):Prop where
 ex:∃(oc:Value) (od:Option Addr) (kV doc pm:Value) (an:Option Addr) (cdv ct:Value) (osl:Array (Option Value)),
  fd=PySem.W.fnOf x qual (zav st) (zY st) (zg st) .none kV doc pm an cdv ct∧K.lookup f=some ⟨oc,od,.func fd,osl⟩∧PySem.W.codeIn K cdv qual=true
 kp:PySem.W.keepIn K (.ref f)=true
section
variable {P:Program}{w:World}{K:PySem.W.Frag}{mg:Str→Option Value}{base:Heap}
theorem Fun.ok {x qual:Str}{st:Stmt}{f:Addr}{fd:FuncData}{N ps:List Str}{k:Nat}{sp:Sp}(F:Fun K x qual st f fd)(S:zv N ps (zg st))(len:∀vs H Q E,sp vs H Q E→vs.length=ps.length)
  (hbody:∀(cdv:Value) (A:Around) (outer:List Env) (s:Shared) (H:Hp) (vs:List V) (Q:VK) (E:XK),Room k (A.deeper (envOfC qual (zg st) s.heap.objs.size f cdv))→sp vs H Q E→
   ∃t,PSs (cxOf CX0 P w K mg base N qual (zg st) f cdv A outer s H E).nox (zY st) t∧t {nx:=fun _ H'=>Q .non H',rt:=Q} (start N vs) H):FnOk P w K mg base CX0 (k+1) f fd ps sp:=by
 obtain ⟨oc,od,kV,doc,pm,an,cdv,ct,osl,rfl,lk,hcd⟩:=F.ex
 refine zkW lk hcd S len fun A outer s H vs Q E hr hsp=>?_
 obtain ⟨t,h,q⟩:=hbody cdv A outer s H vs Q E hr hsp
 exact ⟨t,h.nox,q⟩
theorem Fun.binds {x qual:Str}{st:Stmt}{f:Addr}{fd:FuncData}{ps:List Str}(F:Fun K x qual st f fd)
  (h:∀(kV doc pm:Value) (an:Option Addr) (cdv ct:Value) (us:List Value),us.length=ps.length→bindArgs (PySem.W.fnOf x qual (zav st) (zY st) (zg st) .none kV doc pm an cdv ct) ⟨us,[]⟩=pure (ps.zip us)):Binds K fd ps []:=by
 obtain ⟨oc,od,kV,doc,pm,an,cdv,ct,osl,rfl,lk,hcd⟩:=F.ex
 exact .all (h kV doc pm an cdv ct)
theorem zcn {x qual:Str}{st:Stmt}{f:Addr}{oc:Value}{od an:Option Addr}{osl:Array (Option Value)}{kV doc pm cdv ct:Value}(l:K.lookup f=some ⟨oc,od,.func (PySem.W.fnOf x qual (zav st) (zY st) (zg st) .none kV doc pm an cdv ct),osl⟩)
  (c:PySem.W.codeIn K cdv qual=true) (k:PySem.W.keepIn K (.ref f)=true):Fun K x qual st f (PySem.W.fnOf x qual (zav st) (zY st) (zg st) .none kV doc pm an cdv ct):=⟨⟨oc,od,kV,doc,pm,an,cdv,ct,osl,rfl,l,c⟩,k⟩
end
theorem zeS {A:Around}{k:Nat}(hr:Room k A):A.units+1 < cLine:=Nat.lt_of_le_of_lt (Nat.add_le_add_left (by decide:1≤64) _) hr.units
theorem zhZ {n:Nat}(h:n≤1000):n < sizeLine:=Nat.lt_of_le_of_lt h (by decide)
section
variable {X:Cx}
theorem pv (i:Nat){x:Str}{pos:Pos}(hN:X.N[i]? =some x:=by rfl)(hv:Vis X.env.scope x:=by first | exact Or.inl rfl | exact Or.inr (Or.inl rfl) | exact Or.inr (Or.inr rfl))(hd:(x==("__debug__" :Str))=false:=by decide)
  (hcd:(x==("__classdict__" :Str))=false:=by decide):PE X (.Name x pos) (tVar i):=zlF hN hv hd hcd
end
def Same (H H':Hp):Prop:=∀b o,H b=some o→H' b=some o
theorem Same.refl (H:Hp):Same H H:=fun _ _ h=>h
theorem Same.trans {H H1 H2:Hp}(a:Same H H1)(b:Same H1 H2):Same H H2:=fun c o h=>b c o (a c o h)
theorem Same.free {H H':Hp}(e:Same H H'){l:Addr}(h:H' l=Option.none):H l=Option.none:=by
 cases q:H l with
 | none=>rfl
 | some o=>
  rw [e l o q] at h
  cases h
theorem Same.seq {K:PySem.W.Frag}{H H':Hp}{a:Addr}{xs:List V}(e:Same H H')(h:SqL K H a xs):SqL K H' a xs:=by
 rcases h with (h | ⟨o,h⟩) | h
 ·exact .inl (.inl (e _ _ h))
 ·exact .inl (.inr ⟨o,e _ _ h⟩)
 ·exact .inr h
end L2
namespace L2
open PySem PySem.Spec PyProof.Rows
section
variable {κ:Type} [DecidableEq κ]
def valV (kvs:List (κ ×V))(k:κ):Option V:=(kvs.find? fun kv=>decide (kv.1=k)).map (·.2)
def putK (kvs:List (κ ×V))(k:κ)(v:V):List (κ ×V):=
 if (kvs.any fun kv=>decide (kv.1=k))=true then kvs.map (fun kv=>if kv.1=k then (kv.1,v) else kv) else kvs++ [(k,v)]
def zfP (kvs:List (κ ×V))(k:κ):List (κ ×V):=kvs.filter fun kv=>decide (kv.1≠k)
theorem zc7 {p:κ ×V}{r:List (κ ×V)}{k:κ}(e:p.1=k):valV (p::r) k=some p.2:=by simp [valV,List.find?_cons,e]
theorem zet {p:κ ×V}{r:List (κ ×V)}{k:κ}(e:¬p.1=k):valV (p::r) k=valV r k:=by simp [valV,List.find?_cons,e]
theorem zem (k:κ):∀kvs:List (κ ×V),(kvs.any fun kv=>decide (kv.1=k))=(valV kvs k).isSome
 | []=>rfl
 | p::r=>by
  rw [List.any_cons]
  by_cases e:p.1=k
  ·simp only [zc7 e,decide_eq_true e,Bool.true_or,Option.isSome_some]
  ·rw [zet e,decide_eq_false e,Bool.false_or];exact zem k r
theorem zdM (kvs:List (κ ×V))(k:κ)(v:V):(putK kvs k v).length≤kvs.length+1:=by
 unfold putK
 split
 ·rw [List.length_map];omega
 ·rw [List.length_append,List.length_cons,List.length_nil];omega
theorem zjU {kvs:List (κ ×V)}{k:κ}(v:V)(h:valV kvs k=none):putK kvs k v=kvs++ [(k,v)]:=by
 unfold putK
 rw [zem,h]
 exact if_neg (by decide)
theorem RelO.isSome_eq {o:Option V}{u:Option Value}(r:RelO o u):o.isSome=u.isSome:=by
 cases o with
 | none=>cases u with
  | none=>rfl
  | some _=>exact (show False from r).elim
 | some _=>cases u with
  | none=>exact (show False from r).elim
  | some _=>rfl
theorem RelO.getD {o:Option V}{u:Option Value}{d:V}{d':Value}(r:RelO o u)(rd:RelV d d'):RelV (o.getD d) (u.getD d'):=by
 cases o with
 | none=>cases u with
  | none=>exact rd
  | some _=>exact (show False from r).elim
 | some _=>cases u with
  | none=>exact (show False from r).elim
  | some _=>exact r
theorem KV.val {kvs:List (κ ×V)}{vs:List (κ ×Value)}(r:KV kvs vs)(k:κ):RelO (valV kvs k) (valueAt vs k):=by
 unfold KV at r
 induction r with
 | nil=>exact True.intro
 | @cons p q ps qs h t ih=>
  obtain ⟨h1,h2⟩:=h
  by_cases e:p.1=k
  ·have e':q.1=k:=h1.symm.trans e
   have b:valueAt (q::qs) k=some q.2:=by simp [valueAt,List.find?_cons,e']
   rw [zc7 e,b];exact h2
  ·have e':¬q.1=k:=fun z=>e (h1.trans z)
   have b:valueAt (q::qs) k=valueAt qs k:=by simp [valueAt,List.find?_cons,e']
   rw [zet e,b];exact ih
theorem KV.any {kvs:List (κ ×V)}{vs:List (κ ×Value)}(r:KV kvs vs)(k:κ):(kvs.any fun kv=>decide (kv.1=k))=vs.any fun kv=>decide (kv.1=k):=by
 unfold KV at r
 induction r with
 | nil=>rfl
 | cons h t ih=>rw [List.any_cons,List.any_cons,ih,h.1]
theorem KV.repl {kvs:List (κ ×V)}{vs:List (κ ×Value)}(r:KV kvs vs)(k:κ){y:V}{u:Value}(ry:RelV y u):
  KV (kvs.map fun kv=>if kv.1=k then (kv.1,y) else kv) (vs.map fun kv=>if kv.1=k then (kv.1,u) else kv):=by
 unfold KV at r ⊢
 induction r with
 | nil=>exact .nil
 | @cons p q ps qs h t ih=>
  rw [List.map_cons,List.map_cons]
  refine .cons ?_ ih
  obtain ⟨h1,h2⟩:=h
  by_cases e:p.1=k
  ·rw [if_pos e,if_pos (h1.symm.trans e)];exact ⟨h1,ry⟩
  ·rw [if_neg e,if_neg (fun z=>e (h1.trans z))];exact ⟨h1,h2⟩
theorem KV.put {kvs:List (κ ×V)}{vs:List (κ ×Value)}(r:KV kvs vs)(k:κ){y:V}{u:Value}(ry:RelV y u):KV (putK kvs k y) (stored vs k u):=by
 unfold putK stored
 rw [r.any k]
 by_cases e:(vs.any fun kv=>decide (kv.1=k))=true
 ·rw [if_pos e,if_pos e];exact r.repl k ry
 ·rw [if_neg e,if_neg e];exact Paired.snoc r ⟨rfl,ry⟩
theorem KV.drop {kvs:List (κ ×V)}{vs:List (κ ×Value)}(r:KV kvs vs)(k:κ):KV (zfP kvs k) (without vs k):=by
 unfold KV at r ⊢
 unfold zfP without
 induction r with
 | nil=>exact .nil
 | @cons p q ps qs h t ih=>
  obtain ⟨h1,h2⟩:=h
  rw [List.filter_cons,List.filter_cons]
  by_cases e:p.1=k
  ·have a:¬decide (p.1≠k)=true:=by simp [e]
   have b:¬decide (q.1≠k)=true:=by simp [h1.symm.trans e]
   rw [if_neg a,if_neg b];exact ih
  ·have e':¬q.1=k:=fun z=>e (h1.trans z)
   have a:decide (p.1≠k)=true:=by simp [e]
   have b:decide (q.1≠k)=true:=by simp [e']
   rw [if_pos a,if_pos b];exact .cons ⟨h1,h2⟩ ih
theorem KV.keys {kvs:List (κ ×V)}{vs:List (κ ×Value)}(r:KV kvs vs):kvs.map (·.1)=vs.map (·.1):=by
 unfold KV at r
 induction r with
 | nil=>rfl
 | cons h t ih=>rw [List.map_cons,List.map_cons,ih,h.1]
theorem KV.length {kvs:List (κ ×V)}{vs:List (κ ×Value)}(r:KV kvs vs):kvs.length=vs.length:=Paired.length r
end
theorem zfN {P:Program}{w:World}{k:Key}{u:Value}(r:RelV (kV k) u):(zaK P w).is k u=true:=by
 cases k with
 | inl i=>obtain ⟨t,e⟩:=(show∃t,u=Value.int i t from r);subst e;exact zf0 P w i t
 | inr x=>obtain ⟨t,e⟩:=(show∃t,u=Value.str x t from r);subst e;exact zga P w x t
theorem zeJ {P:Program}{w:World}:∀{ks:List Key} {us:List Value},Vals (ks.map kV) us→ItemsAre (zaK P w) ks us
 | [],_,r=>by rw [List.map_nil] at r;cases r;exact .nil
 | k::ks,_,r=>by
  rw [List.map_cons] at r
  cases r with
  | cons h t=>exact .cons (zfN h) (zeJ t)
abbrev KT (H:Hp):List (List Key ×V)→List (List Key ×Addr ×Value)→Prop:=Paired fun p q=>p.1=q.1∧H q.2.1=some (.tup (p.1.map kV))∧RelV p.2 q.2.2
theorem KT.val {H:Hp}{kvs:List (List Key ×V)}{xs:List (List Key ×Addr ×Value)}(r:KT H kvs xs)(k:List Key):RelO (valV kvs k) ((atKey xs k).map (·.2)):=by
 induction r with
 | nil=>exact True.intro
 | @cons p q ps qs h t ih=>
  obtain ⟨h1,_,h2⟩:=h
  by_cases e:p.1=k
  ·have e':q.1=k:=h1.symm.trans e
   have b:atKey (q::qs) k=some q.2:=by simp [atKey,List.find?_cons,e']
   rw [zc7 e,b];exact h2
  ·have e':¬q.1=k:=fun z=>e (h1.trans z)
   have b:atKey (q::qs) k=atKey qs k:=by simp [atKey,List.find?_cons,e']
   rw [zet e,b];exact ih
theorem KT.repl {H:Hp}{kvs:List (List Key ×V)}{xs:List (List Key ×Addr ×Value)}(r:KT H kvs xs)(k:List Key){y:V}{u:Value}(ry:RelV y u):
  KT H (kvs.map fun kv=>if kv.1=k then (kv.1,y) else kv) (xs.map (putAt k u)):=by
 induction r with
 | nil=>exact .nil
 | @cons p q ps qs h t ih=>
  rw [List.map_cons,List.map_cons]
  refine .cons ?_ ih
  obtain ⟨h1,h2,h3⟩:=h
  unfold putAt
  by_cases e:p.1=k
  ·rw [if_pos e,if_pos (h1.symm.trans e)];exact ⟨h1,h2,ry⟩
  ·rw [if_neg e,if_neg (fun z=>e (h1.trans z))];exact ⟨h1,h2,h3⟩
theorem KT.put {H:Hp}{kvs:List (List Key ×V)}{xs:List (List Key ×Addr ×Value)}(r:KT H kvs xs)(k:List Key){b:Addr}{y:V}{u:Value}(hb:H b=some (.tup (k.map kV)))(ry:RelV y u):
  KT H (putK kvs k y) (storedH xs k b u):=by
 have e:(kvs.any fun kv=>decide (kv.1=k))=(atKey xs k).isSome:=by
  rw [zem,(r.val k).isSome_eq,Option.isSome_map]
 unfold putK storedH
 rw [e]
 by_cases q:(atKey xs k).isSome=true
 ·rw [if_pos q,if_pos q];exact r.repl k ry
 ·rw [if_neg q,if_neg q];exact Paired.snoc r ⟨rfl,hb,ry⟩
theorem KT.keeps {H H':Hp}{kvs:List (List Key ×V)}{xs:List (List Key ×Addr ×Value)}(r:KT H kvs xs)(ht:∀b ys,H b=some (.tup ys)→H' b=some (.tup ys)):KT H' kvs xs:=
 Paired.mapP r fun _ _ z=>⟨z.1,ht _ _ z.2.1,z.2.2⟩
section
variable {P:Program}{w:World}{H:Hp}{h:Heap}{a:Addr}
theorem zk0 {u:HO}(ok:HOk P w H h)(e:Rd H a u):z6 P w H h a u:=e.ok ok
theorem zfM {kvs:List (Key ×V)}(ok:HOk P w H h)(e:Rd H a (.dK kvs)):kvs.length≤sizeLine∧(a==sysModules)=false∧∃vs,KV kvs vs∧h.DictOf (zaK P w) a vs:=
 show z6 P w H h a (.dK kvs) from zk0 ok e
theorem zmE {kvs:List (Key ×V)}(ok:HOk P w H h)(e:H a=some (.dK kvs)):kvs.length≤sizeLine∧(a==sysModules)=false∧∃vs,KV kvs vs∧h.DictOf (zaK P w) a vs:=zfM ok (.inl e)
theorem zeo {ks:List Key}(ok:HOk P w H h)(e:H a=some (.tup (ks.map kV))):(tupleKind (zaK P w)).is h ks a:=by
 obtain ⟨_,its,r,o,h1,h2,n,h3⟩:=(show z6 P w H h a (.tup (ks.map kV)) from ok a _ e)
 exact ⟨o,its.toArray,n,h1,h2,h3,by simpa using zeJ r⟩
theorem zf4 {kvs:List (List Key ×V)}(ok:HOk P w H h)(e:Rd H a (.dT kvs)):kvs.length≤sizeLine∧(a==sysModules)=false∧
  ∃xs,KT H kvs xs∧h.DictOfH (tupleKind (zaK P w)) a xs:=by
 obtain ⟨z,y,xs,r,o,es,ep,h1,h2,h3,h4,h5⟩:=(show z6 P w H h a (.dT kvs) from zk0 ok e)
 refine ⟨z,y,xs,r,o,es,ep,h1,h2,h3,h4,fun x hx=>?_,h5⟩
 have all:∀{l:List (List Key ×V)} {m:List (List Key ×Addr ×Value)},KT H l m→∀x∈m,(tupleKind (zaK P w)).is h x.1 x.2.1:=by
  intro l m q
  induction q with
  | nil=>intro x hx;exact nomatch hx
  | @cons p q ps qs hq t ih=>
   intro x hx
   rcases List.mem_cons.mp hx with e | hx
   ·subst e
    exact zeo ok (by rw [←hq.1];exact hq.2.1)
   ·exact ih x hx
 exact all r x hx
theorem zmt {kvs:List (List Key ×V)}(ok:HOk P w H h)(e:H a=some (.dT kvs)):kvs.length≤sizeLine∧(a==sysModules)=false∧
  ∃xs,KT H kvs xs∧h.DictOfH (tupleKind (zaK P w)) a xs:=zf4 ok (.inl e)
end
def DGet (H:Hp)(a:Addr)(y:V)(r:Option V):Prop:=
 (∃kvs k,Rd H a (.dK kvs)∧y=kV k∧r=valV kvs k)∨∃kvs k b,Rd H a (.dT kvs)∧y=.ref b∧H b=some (.tup (k.map kV))∧r=valV kvs k
def DPut (H:Hp)(a:Addr)(y v:V)(H':Hp):Prop:=
 (∃kvs k,H a=some (.dK kvs)∧y=kV k∧kvs.length < sizeLine∧H'=upd H a (.dK (putK kvs k v)))∨
 ∃kvs k b,H a=some (.dT kvs)∧y=.ref b∧H b=some (.tup (k.map kV))∧kvs.length < sizeLine∧H'=upd H a (.dT (putK kvs k v))
theorem DGet.k {H:Hp}{a:Addr}{kvs:List (Key ×V)}{k:Key}(e:H a=some (.dK kvs)):DGet H a (kV k) (valV kvs k):=.inl ⟨kvs,k,.inl e,rfl,rfl⟩
theorem DGet.t {H:Hp}{a b:Addr}{kvs:List (List Key ×V)}{k:List Key}(e:H a=some (.dT kvs))(eb:H b=some (.tup (k.map kV))):DGet H a (.ref b) (valV kvs k):=.inr ⟨kvs,k,b,.inl e,rfl,eb,rfl⟩
theorem DPut.k {H:Hp}{a:Addr}{kvs:List (Key ×V)}{k:Key}{v:V}(e:H a=some (.dK kvs))(hl:kvs.length < sizeLine):DPut H a (kV k) v (upd H a (.dK (putK kvs k v))):=.inl ⟨kvs,k,e,rfl,hl,rfl⟩
theorem DPut.t {H:Hp}{a b:Addr}{kvs:List (List Key ×V)}{k:List Key}{v:V}(e:H a=some (.dT kvs))(eb:H b=some (.tup (k.map kV)))(hl:kvs.length < sizeLine):
  DPut H a (.ref b) v (upd H a (.dT (putK kvs k v))):=.inr ⟨kvs,k,b,e,rfl,eb,hl,rfl⟩
section
variable {X:Cx}{pins:List (Addr ×Obj)}{σ:St}{H:Hp}{s:Shared}{a:Addr}{y v:V}{u r:Value}{o:Option V}{A:Around}{E:Value→Shared→Prop}
theorem Inv.big (I:Inv X pins σ H s):sysModules < s.heap.objs.size:=by
 have h:mainGlobals < s.heap.objs.size:=(I.mod.glob.keeps I.bk).lt
 exact Nat.lt_trans (by decide) h
theorem zhY {Q:Value→Shared→Prop}(hu:A.units+1 < cLine)(I:Inv X pins σ H s)(g:DGet H a y (some v))(ry:RelV y u)(h:∀w' s',Inv X pins σ H s'→RelV v w'→Q w' s'):
  wpAny (model X.prog X.w) A (getItem (.ref a) u) Q E s:=by
 rcases g with ⟨kvs,k,e,ey,l⟩ | ⟨kvs,k,b,e,ey,eb,l⟩
 ·subst ey
  obtain ⟨z,hd,vs,rel,dd⟩:=zfM I.hok e
  obtain ⟨w',hw,rw'⟩:=RelO.some_of (v:=v) (o:=valueAt vs k) (by rw [l];exact rel.val k)
  exact wpAny_getItem_of (zfN ry) dd.mapOf hw (h w' _ (I.tok _) rw')
 ·subst ey
  cases (show u=Value.ref b from ry)
  obtain ⟨z,hd,xs,rel,dd⟩:=zf4 I.hok e
  obtain ⟨w',hw,rw'⟩:=RelO.some_of (v:=v) (o:=(atKey xs k).map (·.2)) (by rw [l];exact rel.val k)
  obtain ⟨p,hp,hp2⟩:=Option.map_eq_some_iff.mp hw
  refine wpAny_getItem_heap (tupleKind_room_in1 hu) (zeo I.hok eb) dd hp ?_
  rw [hp2]
  exact h w' _ (I.tok _) rw'
theorem d_in {Q:Value→Shared→Prop}(hu:A.units+1 < cLine)(I:Inv X pins σ H s)(g:DGet H a y o)(ry:RelV y u)(h:∀s',Inv X pins σ H s'→Q (.bool o.isSome) s'):
  wpAny (model X.prog X.w) A (compareOp .In u (.ref a)) Q E s:=by
 rcases g with ⟨kvs,k,e,ey,l⟩ | ⟨kvs,k,b,e,ey,eb,l⟩
 ·subst ey
  obtain ⟨z,hd,vs,rel,dd⟩:=zfM I.hok e
  refine wpAny_in_of (zfN ry) hd dd.mapOf ?_
  rw [←(rel.val k).isSome_eq,←l]
  exact h _ (I.tok _)
 ·subst ey
  cases (show u=Value.ref b from ry)
  obtain ⟨z,hd,xs,rel,dd⟩:=zf4 I.hok e
  refine wpAny_in_heap (tupleKind_room_in1 hu) (zeo I.hok eb) hd dd ?_
  have q:=(rel.val k).isSome_eq
  rw [Option.isSome_map] at q
  rw [←q,←l]
  exact h _ (I.tok _)
theorem zj7 {Q:Value→Shared→Prop}(hu:A.units+1 < cLine)(I:Inv X pins σ H s)(g:DGet H a y o)(ry:RelV y u)(h:∀s',Inv X pins σ H s'→Q (.bool (!o.isSome)) s'):
  wpAny (model X.prog X.w) A (compareOp .NotIn u (.ref a)) Q E s:=by
 rcases g with ⟨kvs,k,e,ey,l⟩ | ⟨kvs,k,b,e,ey,eb,l⟩
 ·subst ey
  obtain ⟨z,hd,vs,rel,dd⟩:=zfM I.hok e
  refine wpAny_notIn_of (zfN ry) hd dd.mapOf ?_
  rw [←(rel.val k).isSome_eq,←l]
  exact h _ (I.tok _)
 ·subst ey
  cases (show u=Value.ref b from ry)
  obtain ⟨z,hd,xs,rel,dd⟩:=zf4 I.hok e
  refine wpAny_notIn_heap (tupleKind_room_in1 hu) (zeo I.hok eb) hd dd ?_
  have q:=(rel.val k).isSome_eq
  rw [Option.isSome_map] at q
  rw [←q,←l]
  exact h _ (I.tok _)
theorem zg7 {h':Heap}{t':Nat}{ob:HO}(I:Inv X pins σ H s)(mu:Mut (H a))(hs:Heap.SameBut a s.heap h')(he:∃q,h'.get? a=some q)(new:z6 X.prog X.w (upd H a ob) h' a ob):
  Inv X pins σ (upd H a ob) {s with heap:=h',toks:=t'}:=
 I.write (x:=a) (e:=a) mu (.inl rfl) (fun b q hb z=>(hs.2 b hb).trans z) he new
theorem zle {P:Program}{w:World}{H':Hp}{h':Heap}{kvs:List (Key ×V)}{vs:List (Key ×Value)}(z:kvs.length≤sizeLine)(hd:(a==sysModules)=false)(rel:KV kvs vs)(dd:h'.DictOf (zaK P w) a vs):
  z6 P w H' h' a (.dK kvs):=⟨z,hd,vs,rel,dd⟩
theorem zh0 {H':Hp}{Q:Unit→Shared→Prop}(hu:A.units+1 < cLine)(I:Inv X pins σ H s)(g:DPut H a y v H')(ry:RelV y u)(rv:RelV v r)(h:∀s',Inv X pins σ H' s'→Q () s'):
  wpAny (model X.prog X.w) A (setItem (.ref a) u r) Q E s:=by
 rcases g with ⟨kvs,k,e,ey,l,eH⟩ | ⟨kvs,k,b,e,ey,eb,l,eH⟩
 ·subst ey eH
  obtain ⟨z,hd,vs,rel,dd⟩:=zmE I.hok e
  have hz:vs.length≤sizeLine:=by rw [←rel.length];exact z
  have hl:(putK kvs k v).length≤sizeLine:=by have:=zdM kvs k v;omega
  refine wpAny_setItem_pairs (hsz:=hz) (zfN ry) dd fun h' dd' hs=>h _ ?_
  have he:∃q,h'.get? a=some q:=let ⟨q,_,_,hq,_⟩:=dd';⟨q,hq⟩
  exact zg7 I (by rw [e];exact True.intro) hs he (zle hl hd (rel.put k rv) dd')
 ·subst ey eH
  cases (show u=Value.ref b from ry)
  obtain ⟨z,hd,xs,rel,dd⟩:=zmt I.hok e
  have hz:xs.length≤sizeLine:=by rw [←Paired.length rel];exact z
  have hl:(putK kvs k v).length≤sizeLine:=by have:=zdM kvs k v;omega
  refine wpAny_setItem_heap (hsz:=hz) (tupleKind_room_in1 hu) (zeo I.hok eb) dd fun h' dd' hs=>h _ ?_
  obtain ⟨q,es,ep,hq,h2,h3,h4,_,h5⟩:=dd'
  refine zg7 I (by rw [e];exact True.intro) hs ⟨q,hq⟩ ⟨hl,hd,_,(rel.put k eb rv).keeps fun c ys ec=>?_,q,es,ep,hq,h2,h3,h4,h5⟩
  rw [zq (zbg ec e (fun z=>nomatch z))]
  exact ec
end
section
variable {X:Cx}{pins:List (Addr ×Obj)}{σ:St}{H:Hp}{s:Shared}{a:Addr}{kvs:List (Key ×V)}{k:Key}{u:Value}{A:Around}{E:Value→Shared→Prop}
end
def NoSl (i:Expr):Prop:=∀ov iv,subscripted i false ov iv=operate [ov,iv] (getItem ov iv)
theorem zkz {prog:Program}{w:World}{A:Around}{E:Value→Shared→Prop}{s:Shared}{env:Env}{value slice:Expr}{pos:Pos}{T id:String}{Q:Value→Shared→Prop}
  (hl:typeLookup (.type T) "__getitem__" =pure (some (.builtin id))) (hs:NoSl slice)
  (h:wpAny (model prog w) A (eval value env) (fun o s₁=>wpAny (model prog w) A (eval slice env) (fun i s₂=>s₂.TypeIs o T∧wpAny (model prog w) A (getItem o i) Q E s₂) E s₁) E s):
  wpAny (model prog w) A (eval (.Subscript value slice pos) env) Q E s:=by
 refine Subscript_ (wpAny_mono h (fun o s₁ h₁=>wpAny_mono h₁ (fun i s₂ h₂=>?_) fun _ _ x=>x) fun _ _ x=>x)
 obtain ⟨hT,h₂⟩:=h₂
 unfold subscriptTail
 refine wpAny_bind ?_
 rw [getitemInPython_of_ne hT.not_modules]
 refine wpAny_bind (wpAny_specialOf hT hl ?_)
 have fin:wpAny (model prog w) A (subscripted slice false o i) (fun r s₃=>wpAny (model prog w) A (letTemporaryGo value o r >>=fun _=>pure r) Q E s₃) E s₂:=by
  rw [hs o i]
  exact wpAny_operating (wpAny_mono h₂ (fun r s₃ h₃=>wpAny_bind (wpAny_letTemporaryGo (wpAny_pure h₃))) fun _ _ x=>x)
 first
  | exact wpAny_pure (wpAny_bind fin)
  | exact wpAny_bind (wpAny_pure (wpAny_bind fin))
  | exact wpAny_bind fin
theorem zfE {X:Cx}{pins:List (Addr ×Obj)}{σ:St}{H:Hp}{s:Shared}{a:Addr}{y:V}{o:Option V}(I:Inv X pins σ H s)(g:DGet H a y o):s.TypeIs (.ref a) "dict" :=by
 rcases g with ⟨kvs,k,e,_,_⟩ | ⟨kvs,k,b,e,_,_,_⟩
 ·obtain ⟨_,_,vs,_,dd⟩:=zfM I.hok e
  exact dd.typeIs
 ·obtain ⟨_,_,xs,_,dd⟩:=zf4 I.hok e
  exact dd.typeIs
def zmr (td ty:TE):TE:=fun σ H Q=>td σ H fun x H1=>ty σ H1 fun y H2=>∃a v,x=.ref a∧DGet H2 a y (some v)∧Q v H2
def tDIn (ty td:TE):TE:=fun σ H Q=>ty σ H fun y H1=>td σ H1 fun x H2=>∃a o,x=.ref a∧DGet H2 a y o∧Q (.bl o.isSome) H2
def zj3 (ty td:TE):TE:=fun σ H Q=>ty σ H fun y H1=>td σ H1 fun x H2=>∃a o,x=.ref a∧DGet H2 a y o∧Q (.bl (!o.isSome)) H2
def zmB (td ty tv:TE):TS:=fun D σ H=>tv σ H fun v H1=>td σ H1 fun x H2=>ty σ H2 fun y H3=>∃a H4,x=.ref a∧DPut H3 a y v H4∧D.nx σ H4
def znl (td ty tv:TE)(rd:V→V→Hp→VK→Prop):TS:=fun D σ H=>td σ H fun x H1=>ty σ H1 fun y H2=>∃a v,x=.ref a∧DGet H2 a y (some v)∧
 tv σ H2 fun y2 H3=>rd v y2 H3 fun z H4=>∃H5,DPut H4 a y z H5∧D.nx σ H5
def znj (td ty:TE):TS:=fun D σ H=>td σ H fun x H1=>ty σ H1 fun y H2=>∃a kvs k,x=.ref a∧H2 a=some (.dK kvs)∧y=kV k∧(valV kvs k).isSome=true∧D.nx σ (upd H2 a (.dK (zfP kvs k)))
section
variable {X:Cx}{o i e value:Expr}{pos pos' tpos:Pos}{td ty tv:TE}
theorem zfx (hu:X.A.units+1 < cLine)(ho:PE X o td)(hi:PE X i ty)(hs:NoSl i):PE X (.Subscript o i pos) (zmr td ty):=by
 intro pins s σ H Q I h
 refine zkz PySem.F.slot_dict_getitem.lookup hs (thn (ho pins s σ H _ I h) fun u s1 ⟨x,H1,I1,rx,q1⟩=>thn (hi pins s1 σ H1 _ I1 q1) fun iv s2 ⟨y,H2,I2,ry,a,v,ex,g,q2⟩=>?_)
 subst ex
 obtain rfl:u=Value.ref a:=rx
 exact ⟨zfE I2 g,zhY hu I2 g ry fun w' s3 I3 rw'=>⟨v,H2,I3,rw',q2⟩⟩
theorem zl3 (hu:X.A.units+1 < cLine)(hi:PE X i ty)(ho:PE X o td):PC X .In i o (tDIn ty td):=by
 intro pins s σ H Q I h
 refine thn (hi pins s σ H _ I h) fun iv s1 ⟨y,H1,I1,ry,q1⟩=>thn (ho pins s1 σ H1 _ I1 q1) fun u s2 ⟨x,H2,I2,rx,a,ov,ex,g,q2⟩=>?_
 subst ex
 obtain rfl:u=Value.ref a:=rx
 exact d_in hu I2 g ry fun s3 I3=>⟨.bl ov.isSome,H2,I3,rfl,q2⟩
theorem zij (hu:X.A.units+1 < cLine)(hi:PE X i ty)(ho:PE X o td):PC X .NotIn i o (zj3 ty td):=by
 intro pins s σ H Q I h
 refine thn (hi pins s σ H _ I h) fun iv s1 ⟨y,H1,I1,ry,q1⟩=>thn (ho pins s1 σ H1 _ I1 q1) fun u s2 ⟨x,H2,I2,rx,a,ov,ex,g,q2⟩=>?_
 subst ex
 obtain rfl:u=Value.ref a:=rx
 exact zj7 hu I2 g ry fun s3 I3=>⟨.bl (!ov.isSome),H2,I3,rfl,q2⟩
theorem zj6 (hu:X.A.units+1 < cLine)(ho:PE X o td)(hi:PE X i ty)(hv:PE X value tv)(hs:swapsWith value (some (.Subscript o i pos')) pos.line X.env=pure false):
  PS X (.Assign [.Subscript o i pos'] value pos) (zmB td ty tv):=by
 intro pins s σ H D I h
 refine wpAny_Assign_Subscript (thn (hv pins s σ H _ I h) fun r s1 ⟨v,H1,I1,rv,q1⟩=>thn (ho pins s1 σ H1 _ I1 q1) fun u s2 ⟨x,H2,I2,rx,q2⟩=>thn (hi pins s2 σ H2 _ I2 q2) fun iv s3 ⟨y,H3,I3,ry,a,H4,ex,g,q3⟩=>?_) hs
 subst ex
 obtain rfl:u=Value.ref a:=rx
 exact zh0 hu I3 g ry rv fun s4 I4=>⟨σ,H4,I4,q3⟩
end
theorem zji {P:Program}{w:World}{H:Hp}(h:Heap)(hb:sysModules < h.objs.size):z6 P w H (h.push {cls:=.type "dict",data:=.dict #[]}) h.objs.size (.dK []):=
 ⟨Nat.zero_le _,beq_eq_false_iff_ne.mpr (Ne.symm (Nat.ne_of_lt hb)),[],.nil,Heap.DictOf.new h⟩
def zl0:TE:=fun _ H Q=>∀p,H p=none→Q (.ref p) (upd H p (.dK []))
def zmV:TE:=fun _ H Q=>∀p,H p=none→Q (.ref p) (upd H p (.dT []))
section
variable {X:Cx}{pos:Pos}
theorem zjG:PE X (.Dict [] [] pos) zl0:=fun pins s σ H Q I h=>
 wpAny_Dict_empty ⟨.ref s.heap.objs.size,_,I.laid (a:=s.heap.objs.size) (o:=.dK []) (t':=s.toks) (fun _ _ q=>Heap.get?_push_of_some _ q) (Nat.le_refl _) (zji s.heap I.big),rfl,h _ (I.hok.fresh (Nat.le_refl _))⟩
end
def zgw:List (TE ×TE)→St→Hp→(List (V ×V)→Hp→Prop)→Prop
 | [],_,H,Q=>Q [] H
 | (tk,tv)::r,σ,H,Q=>tk σ H fun x H1=>tv σ H1 fun y H2=>zgw r σ H2 fun ps H3=>Q ((x,y)::ps) H3
abbrev VV:List (V ×V)→List (Value ×Value)→Prop:=Paired fun p q=>RelV p.1 q.1∧RelV p.2 q.2
def PPs (X:Cx)(pos:Pos)(keys:List (Option Expr))(values:List Expr)(trs:List (TE ×TE)):Prop:=
 ∀(pins:List (Addr ×Obj)) (s:Shared) (σ:St) (H:Hp) (Q:List (V ×V)→Hp→Prop),Inv X pins σ H s→zgw trs σ H Q→
  wpAny (model X.prog X.w) X.A (evalPairs (pairTrees keys values X.env pos)) (fun vs s'=>∃ps H',Inv X pins σ H' s'∧VV ps vs∧Q ps H') X.xe s
def zlV (kvs more:List (Key ×V)):List (Key ×V):=more.foldl (fun acc kv=>putK acc kv.1 kv.2) kvs
def znp (trs:List (TE ×TE)):TE:=fun σ H Q=>∀p,H p=none→zgw trs σ (upd H p (.dK [])) fun ps H2=>H2 p=some (.dK [])∧∃kvs:List (Key ×V),ps=kvs.map (fun kv=>(kV kv.1,kv.2))∧kvs.length≤15∧Q (.ref p) (upd H2 p (.dK (zlV [] kvs)))
structure M1 (X:Cx)(o:Expr)(m:Str)(apos:Pos)(e:Expr)(cpos:Pos):Prop where
 base:attributeBase o m X.env (eval o X.env)=eval o X.env
 few:((backTo cpos (starEach [e] X.env)).all (fun x=>!x.1) && (backToKw cpos (keywordEach [] X.env)).all (fun x=>x.1.isSome)
  && decide (([e]:List Expr).length+([]:List Keyword).length+(if ([]:List Keyword).isEmpty then 0 else 1) < 30))=true
 line:(apos.endLine==cpos.line)=true
 trees:backTo cpos (starEach [e] X.env)=[(false,eval e X.env)]
structure M2 (X:Cx)(o:Expr)(m:Str)(apos:Pos)(e f:Expr)(cpos:Pos):Prop where
 base:attributeBase o m X.env (eval o X.env)=eval o X.env
 few:((backTo cpos (starEach [e,f] X.env)).all (fun x=>!x.1) && (backToKw cpos (keywordEach [] X.env)).all (fun x=>x.1.isSome)
  && decide (([e,f]:List Expr).length+([]:List Keyword).length+(if ([]:List Keyword).isEmpty then 0 else 1) < 30))=true
 line:(apos.endLine==cpos.line)=true
 trees:backTo cpos (starEach [e,f] X.env)=[(false,eval e X.env),(false,eval f X.env)]
def IsD (H:Hp)(a:Addr):Prop:=(∃kvs,Rd H a (.dK kvs))∨∃kvs,Rd H a (.dT kvs)
section
variable {X:Cx}{pins:List (Addr ×Obj)}{σ:St}{H:Hp}{s:Shared}{a:Addr}{y d:V}{u r:Value}{o:Option V}{A:Around}{E:Value→Shared→Prop}
end
def zm9 (td ty:TE):TE:=fun σ H Q=>td σ H fun x H1=>∃a,x=.ref a∧IsD H1 a∧ty σ H1 fun y H2=>∃o,DGet H2 a y o∧Q (o.getD .non) H2
def zm0 (td ty tx:TE):TE:=fun σ H Q=>td σ H fun x H1=>∃a,x=.ref a∧IsD H1 a∧ty σ H1 fun y H2=>tx σ H2 fun z H3=>∃o,DGet H3 a y o∧Q (o.getD z) H3
def zm7 (td ty:TE):TE:=fun σ H Q=>td σ H fun x H1=>∃a,x=.ref a∧IsD H1 a∧ty σ H1 fun y H2=>∃kvs k v,H2 a=some (.dK kvs)∧y=kV k∧valV kvs k=some v∧Q v (upd H2 a (.dK (zfP kvs k)))
def zng (td ty tx:TE):TE:=fun σ H Q=>td σ H fun x H1=>∃a,x=.ref a∧IsD H1 a∧ty σ H1 fun y H2=>tx σ H2 fun z H3=>∃kvs k,H3 a=some (.dK kvs)∧y=kV k∧
 (∀v,valV kvs k=some v→Q v (upd H3 a (.dK (zfP kvs k))))∧(valV kvs k=none→Q z H3)
section
variable {X:Cx}{o e f:Expr}{apos cpos:Pos}{td ty tx:TE}
end
section
variable {X:Cx}{pins:List (Addr ×Obj)}{σ:St}{H:Hp}{s:Shared}{a:Addr}{kvs:List (Key ×V)}{A:Around}{E:Value→Shared→Prop}
end
section
variable {X:Cx}{pins:List (Addr ×Obj)}{σ:St}{H:Hp}{s:Shared}{a:Addr}{y:V}{u:Value}{A:Around}{E:Value→Shared→Prop}
end
end L2
namespace Px
open PySem
def Tb (h:Heap)(e:Addr)(cls:Value)(od:Option Addr)(T:Addr)(fl:Value):Prop:=
 ∃oe vs oT ts,h.get? e=some oe∧oe.cls=cls∧oe.dict=od∧oe.data=.fields vs∧vs[1]? =some (.ref T)∧T≠e∧h.get? T=some oT∧oT.data=.fields ts∧ts[3]? =some fl
structure Chg (fs:List Addr)(e T:Addr)(h h':Heap):Prop where
 size:h.objs.size≤h'.objs.size
 keep:∀b o,h.get? b=some o→b∉fs→b≠e→b≠T→h'.get? b=some o
 slot:∀b o,h.get? b=some o→b∈fs→b≠e→b≠T→∃sl,h'.get? b=some {o with slots:=sl}
theorem zlv (o:Obj)(f:Array Value→Array Value):(Obj.mapFields f o).cls=o.cls:=Obj.cls_mapFields _ _
theorem zko (o:Obj)(f:Array Value→Array Value):(Obj.mapFields f o).dict=o.dict:=by
 obtain ⟨c,d,dt,sl⟩:=o
 cases dt <;> rfl
section
variable {M:Model}{A:Around}{E:Value→Shared→Prop}{s:Shared}{base:Heap}{env:Env}{outer:List Env}{L e T:Addr}
theorem entry {oe:Obj}{vs:Array Value}{head:Value}{hadNext:Bool}{Q:Unit→Shared→Prop}(hfr:A.frames=some (env::outer))
  (hl:s.heap.FunFrames base (env::outer)) (hf:env.frame=some L)
  (he:s.heap.get? e=some oe) (hd:oe.data=.fields vs) (hsz:1 < vs.size)
  (h:∀h' T',s.heap.objs.size≤T'→Tb h' e oe.cls oe.dict T' (rawInt L)→Chg ((env::outer).filterMap (·.frame)) e T' s.heap h'→Q () {s with heap:=h'}):
  wpAny M A (do
   let a←frameOf env
   let pl←entryPlaceOf L hadNext
   let b←EntryCells.newEntry head a .none (rawInt L) .none pl
   setField (.ref e) 1 b) Q E s:=by
 have nfr:e∉(env::outer).filterMap (·.frame):=fun hm=>by
  obtain ⟨_,o,ho,hnf⟩:=hl.mem hm
  have z:oe=o:=Option.some.inj (he.symm.trans ho)
  exact hnf vs (by rw [←z];exact hd)
 refine wpAny_bind (wpAny_frameOf_fun hfr hl hf fun g x=>?_)
 refine wpAny_bind (wpAny_entryPlaceOf fun pl hp=>?_)
 unfold EntryCells.newEntry newFields
 refine wpAny_bind (wpAny_newObj_type ?_ (hp.sizeOk5 _ _ _ _ _))
 have ge:g.get? e=some oe:=(x.2.1 e nfr).trans he
 generalize hN:({cls:=.type "traceback",dict:=none,data:=.fields ([head,.ref L,.none,rawInt L,.none]++(if pl.isEmpty then List.replicate 6 Value.none else pl)).toArray}:Obj)=N
 have nfN:N.isFreed=false:=by rw [←hN];rfl
 have dN:∃ts,N.data=.fields ts∧ts[3]? =some (rawInt L):=by
  rw [←hN]
  exact ⟨_,rfl,by first | (simp;done) | (rcases hp with rfl | ⟨_,_,_,_,_,_,_,rfl⟩ <;> simp)⟩
 have pe:(g.push N).get? e=some oe:=Heap.get?_push_of_some N ge
 have pT:(g.push N).get? g.objs.size=some N:=Heap.get?_push_size g nfN
 have Te:g.objs.size≠e:=Ne.symm (Nat.ne_of_lt (Heap.lt_size ge))
 refine wpAny_setField pe hd hsz (h _ g.objs.size (by rw [x.1];exact Nat.le_refl _) ?_ ?_)
 ·obtain ⟨ts,d1,d2⟩:=dN
  have dd:=Obj.data_mapFields hd (·.setIfInBounds 1 (Value.ref g.objs.size))
  refine ⟨_,_,N,ts,Heap.get?_update_self _ pe (Obj.isFreed_of_fields dd),zlv _ _,zko _ _,dd,by simp [hsz],Te,?_,d1,d2⟩
  exact (Heap.get?_update_other _ _ (Ne.symm Te)).trans pT
 ·refine ⟨?_,fun b o q1 q2 q3 q4=>?_,fun b o q1 q2 q3 q4=>?_⟩
  ·rw [Heap.size_after_update,Heap.size_push,x.1];exact Nat.le_succ _
  ·exact (Heap.get?_update_other _ _ (Ne.symm q3)).trans (Heap.get?_push_of_some N ((x.2.1 b q2).trans q1))
  ·obtain ⟨sl,q⟩:=x.2.2 b o q1
   exact ⟨sl,(Heap.get?_update_other _ _ (Ne.symm q3)).trans (Heap.get?_push_of_some N q)⟩
theorem zmj {oe:Obj}{vs:Array Value}{Q:Unit→Shared→Prop}(hfr:A.frames=some (env::outer))(hl:s.heap.FunFrames base (env::outer))(hf:env.frame=some L)
  (he:s.heap.get? e=some oe) (hd:oe.data=.fields vs) (h1:vs[1]? =some .none)
  (h:∀h' T',s.heap.objs.size≤T'→Tb h' e oe.cls oe.dict T' (rawInt L)→Chg ((env::outer).filterMap (·.frame)) e T' s.heap h'→Q () {s with heap:=h'}):
  wpAny M A (noteFrame (.ref e) env) Q E s:=by
 unfold noteFrame
 simp only [hf]
 refine wpAny_bind (wpAny_field he hd h1 ?_)
 rw [if_neg (by decide)]
 exact entry hfr hl hf he hd (Array.getElem?_eq_some_iff.mp h1).1 h
theorem zkT {cls:Value}{od:Option Addr}{Q:Unit→Shared→Prop}(hfr:A.frames=some (env::outer))(hl:s.heap.FunFrames base (env::outer))(hf:env.frame=some L)
  (t:Tb s.heap e cls od T .none)
  (h:∀h' T',s.heap.objs.size≤T'→Tb h' e cls od T' (rawInt L)→Chg ((env::outer).filterMap (·.frame)) e T s.heap h'→Q () {s with heap:=h'}):
  wpAny M A (noteFrame (.ref e) env) Q E s:=by
 obtain ⟨oe,vs,oT,ts,he,hc,ho,hd,h1,hTe,hT,hdT,h3⟩:=t
 unfold noteFrame
 simp only [hf]
 refine wpAny_bind (wpAny_field he hd h1 ?_)
 rw [if_pos (show (Value.ref T !=Value.none)=true from by simp)]
 refine wpAny_bind (wpAny_field hT hdT h3 ?_)
 rw [if_neg (show¬((Value.none==rawInt L)=true) from by simp [rawInt])]
 refine wpAny_bind (wpAny_setField hT hdT (Array.getElem?_eq_some_iff.mp h3).1 ?_)
 have oth:∀b,b≠T→(s.heap.update T (Obj.mapFields (·.setIfInBounds 3 Value.none))).get? b=s.heap.get? b:=fun b hb=>Heap.get?_update_other _ _ (Ne.symm hb)
 have apart:∀b o,s.heap.get? b=some o→(∀vs,o.data≠ .fields vs)→b≠T:=fun b o hb hn q=>by
  subst q
  exact hn ts (by rw [←Option.some.inj (hT.symm.trans hb)];exact hdT)
 refine entry (s:={s with heap:=s.heap.update T (Obj.mapFields (·.setIfInBounds 3 Value.none))}) hfr
  (hl.of_keeps fun b o hb hn=>⟨o,(oth b (apart b o hb hn)).trans hb,rfl⟩) hf ((oth e (Ne.symm hTe)).trans he) hd (Array.getElem?_eq_some_iff.mp h1).1 fun h' T' z1 z2 z3=>?_
 have z1':s.heap.objs.size≤T':=by rw [←Heap.size_after_update s.heap T (Obj.mapFields (·.setIfInBounds 3 Value.none))];exact z1
 rw [hc,ho] at z2
 refine h h' T' z1' z2 ⟨?_,fun b o q1 q2 q3 q4=>?_,fun b o q1 q2 q3 q4=>?_⟩
 ·rw [←Heap.size_after_update s.heap T (Obj.mapFields (·.setIfInBounds 3 Value.none))];exact z3.size
 ·exact z3.keep b o ((oth b q4).trans q1) q2 q3 fun q=>absurd (Heap.lt_size q1) (Nat.not_lt.mpr (q ▸ z1'))
 ·exact z3.slot b o ((oth b q4).trans q1) q2 q3 fun q=>absurd (Heap.lt_size q1) (Nat.not_lt.mpr (q ▸ z1'))
theorem zft {fs:List Addr}{cls fl:Value}{od:Option Addr}{Q:Unit→Shared→Prop}(t:Tb s.heap e cls od T fl)
  (h:∀h',Tb h' e cls od T .none→Chg fs e T s.heap h'→(∀b o,s.heap.get? b=some o→b≠T→h'.get? b=some o)→Q () {s with heap:=h'}):wpAny M A (setFlight (.ref e) none) Q E s:=by
 obtain ⟨oe,vs,oT,ts,he,hc,ho,hd,h1,hTe,hT,hdT,h3⟩:=t
 have z3:3 < ts.size:=(Array.getElem?_eq_some_iff.mp h3).1
 have oth:∀b,b≠T→(s.heap.update T (Obj.mapFields (·.setIfInBounds 3 ((none:Option Addr).elim Value.none fun f=>rawInt f)))).get? b=s.heap.get? b:=
  fun b hb=>Heap.get?_update_other _ _ (Ne.symm hb)
 unfold setFlight
 refine wpAny_bind (wpAny_field he hd h1 ?_)
 rw [if_pos (show (Value.ref T !=Value.none)=true from by simp)]
 have dd:=Obj.data_mapFields hdT (·.setIfInBounds 3 ((none:Option Addr).elim Value.none fun f=>rawInt f))
 refine wpAny_setField hT hdT z3 (h _ ⟨oe,vs,_,_,(oth e (Ne.symm hTe)).trans he,hc,ho,hd,h1,hTe,Heap.get?_update_self _ hT (Obj.isFreed_of_fields dd),dd,by simp [z3]⟩ ?_ ?_)
 ·refine ⟨?_,fun b o q1 _ _ q4=>(oth b q4).trans q1,fun b o q1 _ _ q4=>⟨o.slots,(oth b q4).trans q1⟩⟩
  rw [Heap.size_after_update];exact Nat.le_refl _
 ·exact fun b o q1 q4=>(oth b q4).trans q1
end
structure Chg2 (fs:List Addr)(own:Addr→Prop)(h h':Heap):Prop where
 size:h.objs.size≤h'.objs.size
 keep:∀b o,h.get? b=some o→b∉fs→¬own b→h'.get? b=some o
 slot:∀b o,h.get? b=some o→b∈fs→¬own b→∃sl,h'.get? b=some {o with slots:=sl}
theorem Chg.two {fs:List Addr}{own:Addr→Prop}{e T:Addr}{h h':Heap}(c:Chg fs e T h h')(o1:own e)(o2:own T∨h.get? T=none):Chg2 fs own h h':=by
 have nT:∀b o,h.get? b=some o→¬own b→b≠T:=fun b o q n z=>by
  subst z
  rcases o2 with y | y
  ·exact n y
  ·rw [y] at q;cases q
 exact ⟨c.size,fun b o q a n=>c.keep b o q a (fun z=>n (z ▸ o1)) (nT b o q n),fun b o q a n=>c.slot b o q a (fun z=>n (z ▸ o1)) (nT b o q n)⟩
theorem Chg2.trans {fs:List Addr}{own:Addr→Prop}{h h1 h2:Heap}(a:Chg2 fs own h h1)(b:Chg2 fs own h1 h2):Chg2 fs own h h2:=
 ⟨Nat.le_trans a.size b.size,fun c o q n m=>b.keep c o (a.keep c o q n m) n m,fun c o q n m=>by
  obtain ⟨s1,e1⟩:=a.slot c o q n m
  obtain ⟨s2,e2⟩:=b.slot c _ e1 n m
  exact ⟨s2,e2⟩⟩
section
variable {M:Model}{A:Around}{E:Value→Shared→Prop}{s:Shared}{base:Heap}{env:Env}{outer:List Env}{L e T:Addr}
theorem zl1 {oe:Obj}{vs:Array Value}{Q:Unit→Shared→Prop}(hfr:A.frames=some (env::outer))(hl:s.heap.FunFrames base (env::outer))(hf:env.frame=some L)
  (he:s.heap.get? e=some oe) (hd:oe.data=.fields vs) (h1:vs[1]? =some .none)
  (h:∀h' T',s.heap.objs.size≤T'→Tb h' e oe.cls oe.dict T' .none→Chg2 ((env::outer).filterMap (·.frame)) (· =e) s.heap h'→Q () {s with heap:=h'}):
  wpAny M A (leaving env (.ref e)) Q E s:=by
 unfold leaving
 refine wpAny_bind (zmj hfr hl hf he hd h1 fun g T' z t c=>?_)
 refine zft (s:={s with heap:=g}) (fs:=(env::outer).filterMap (·.frame)) t fun h' t' c' k=>h h' T' z t' ?_
 have n:s.heap.get? T'=none:=Heap.get?_none_of_le z
 refine ⟨Nat.le_trans c.size c'.size,fun b o q a m=>?_,fun b o q a m=>?_⟩
 ·have bT:b≠T':=fun y=>by subst y;rw [n] at q;cases q
  exact k b o (c.keep b o q a m bT) bT
 ·have bT:b≠T':=fun y=>by subst y;rw [n] at q;cases q
  obtain ⟨sl,y⟩:=c.slot b o q a m bT
  exact ⟨sl,k b _ y bT⟩
theorem zlO {cls:Value}{od:Option Addr}{Q:Unit→Shared→Prop}(hfr:A.frames=some (env::outer))(hl:s.heap.FunFrames base (env::outer))(hf:env.frame=some L)
  (t:Tb s.heap e cls od T .none)
  (h:∀h' T',s.heap.objs.size≤T'→Tb h' e cls od T' .none→Chg2 ((env::outer).filterMap (·.frame)) (fun b=>b=e∨b=T) s.heap h'→Q () {s with heap:=h'}):
  wpAny M A (leaving env (.ref e)) Q E s:=by
 unfold leaving
 refine wpAny_bind (zkT hfr hl hf t fun g T' z t1 c=>?_)
 refine zft (s:={s with heap:=g}) (fs:=(env::outer).filterMap (·.frame)) t1 fun h' t' c' k=>h h' T' z t' ?_
 have n:s.heap.get? T'=none:=Heap.get?_none_of_le z
 refine ⟨Nat.le_trans c.size c'.size,fun b o q a m=>?_,fun b o q a m=>?_⟩
 ·have bT:b≠T':=fun y=>by subst y;rw [n] at q;cases q
  exact k b o (c.keep b o q a (fun y=>m (.inl y)) fun y=>m (.inr y)) bT
 ·have bT:b≠T':=fun y=>by subst y;rw [n] at q;cases q
  obtain ⟨sl,y⟩:=c.slot b o q a (fun y=>m (.inl y)) fun y=>m (.inr y)
  exact ⟨sl,k b _ y bT⟩
theorem zmx {cls:Value}{od:Option Addr}{Q:Unit→Shared→Prop}(hfr:A.frames=some (env::outer))(hl:s.heap.FunFrames base (env::outer))(hf:env.frame=some L)
  (t:Tb s.heap e cls od T .none)
  (h:∀h' T',s.heap.objs.size≤T'→Tb h' e cls od T' .none→Chg2 ((env::outer).filterMap (·.frame)) (fun b=>b=e∨b=T) s.heap h'→Q () {s with heap:=h'}):
  wpAny M A (noteFrame (.ref e) env) (fun _ s'=>wpAny M A (setFlight (.ref e) none) Q E s') E s:=by
 refine zkT hfr hl hf t fun g T' z t1 c=>?_
 refine zft (s:={s with heap:=g}) (fs:=(env::outer).filterMap (·.frame)) t1 fun h' t' c' k=>h h' T' z t' ?_
 have n:s.heap.get? T'=none:=Heap.get?_none_of_le z
 refine ⟨Nat.le_trans c.size c'.size,fun b o q a m=>?_,fun b o q a m=>?_⟩
 ·have bT:b≠T':=fun y=>by subst y;rw [n] at q;cases q
  exact k b o (c.keep b o q a (fun y=>m (.inl y)) fun y=>m (.inr y)) bT
 ·have bT:b≠T':=fun y=>by subst y;rw [n] at q;cases q
  obtain ⟨sl,y⟩:=c.slot b o q a (fun y=>m (.inl y)) fun y=>m (.inr y)
  exact ⟨sl,k b _ y bT⟩
end
end Px
namespace Px
open PySem PySem.W PySem.Builtin PySem.Builtin.ObjectAttr
abbrev bmV:List Value:=[.type "ValueError",.type "Exception",.type "BaseException",.type "object"]
def xIn (K:Frag)(C:Addr):Bool:=match K.lookup C with
 | some ⟨.type "type",_,.cls cd,sl⟩=>(match cd.mro,sl.toList with
  | .ref D::bm,[_,_,_,_,some (.builtin n),_]=>D==C && n== "ValueError.__new__" && !cd.hasDel && tailIn K bmV bm
  | _,_=>false)
 | _=>false
theorem zi5 {K:Frag}{h:Heap}{C:Addr}(X:K.In h)(q:xIn K C=true):∃nm qn N bs bm hd sn sub ab col dd k0 k1 k2 k3 k5,
  h.get? C=some (excClassObj nm qn C N bs bm hd sn sub ab col dd k0 k1 k2 k3 k5 "ValueError.__new__")∧OwnTail h bmV bm:=by
 unfold xIn at q
 split at q
 ·rename_i dd cd sl ho
  split at q
  ·rename_i D bm k0 k1 k2 k3 n k5 hm hs
   simp only [Bool.and_eq_true,beq_iff_eq,Bool.not_eq_true'] at q
   obtain ⟨⟨⟨y1,y2⟩,y3⟩,y4⟩:=q
   subst y1;subst y2
   obtain ⟨nm,bs,mro,ns,qn,hd,sn,sub,ab,col,del⟩:=cd
   dsimp only at hm y3
   subst hm;subst y3
   have e:sl= #[k0,k1,k2,k3,some (.builtin "ValueError.__new__"),k5]:=by
    obtain ⟨l⟩:=sl
    exact congrArg Array.mk hs
   subst e
   exact ⟨nm,qn,ns,bs,bm,hd,sn,sub,ab,col,dd,k0,k1,k2,k3,k5,X _ _ ho,tail_of_in X y4⟩
  ·cases q
 ·cases q
abbrev zgR (C t:Addr):Obj:={cls:=.ref C,data:=.fields #[.ref t,.none,.none,.none,.bool false,.none]}
abbrev zlt (vs:List Value):Obj:={cls:=.type "tuple",data:=.seq vs.toArray}
abbrev zbc (h:Heap)(C:Addr)(vs:List Value):Heap:=(h.push (zlt vs)).push (zgR C h.objs.size)
theorem zbY {h:Heap}{C:Addr}{vs:List Value}{b:Addr}{o:Obj}(e:h.get? b=some o):(zbc h C vs).get? b=some o:=
 Heap.get?_push_of_some _ (Heap.get?_push_of_some _ e)
theorem zer {h:Heap}{C:Addr}{vs:List Value}:(zbc h C vs).get? (h.objs.size+1)=some (zgR C h.objs.size):=
 Heap.get?_push_at (by rw [Heap.size_push]) rfl
section
variable {prog:Program}{w:World}{A:Around}{E:Value→Shared→Prop}{h:Heap}{g:Array GenState}{d:Drawn}{t:Nat}{os:OsState}{K:Frag}{C fI:Addr}{vs:List Value}
theorem zhN {Q:Fin→Shared→Prop}(X:K.In h)(q:xIn K C=true)(hi:findIn K (.ref C) "__init__" =some (some (.ref fI))) (hf:typeIn K (.ref fI)=some (.type "function"))
  (hq:wpAny (model prog w) A (call (.ref fI) (.ref (h.objs.size+1)::vs)) (fun r s'=>r=.none∧Q (.done (.ret (.ref (h.objs.size+1)))) s') E ⟨zbc h C vs,g,d,t,os⟩) (hz:vs.length≤sizeLine):
  wpAny (model prog w) A (Builtin.«type.__call__» ⟨.ref C::vs,[]⟩) Q E ⟨h,g,d,t,os⟩:=by
 obtain ⟨nm,qn,N,bs,bm,hd,sn,sub,ab,col,dd,k0,k1,k2,k3,k5,cO,tl⟩:=zi5 X q
 have FV:=PySem.F.excBase_ValueError
 have inV:bmV.contains (.type "ValueError")=true:=by decide
 repeat (first | with_reducible refine wpAny_loadPart_at cO ?_ | with_reducible refine wpAny_madeBy_exc cO ?_ | wp_step)
 refine codeAny_call_builtin_code (Code.quiet_builtin _ FV.quiet) (wpAny_check_new_subU FV inV tl cO ?_)
 refine codeAny_exc_new_subU FV inV FV tl cO ?_ hz
 show wpAny _ _ _ _ _ _
 have cO1:(zbc h C vs).get? C=_:=zbY cO
 have X1:K.In (zbc h C vs):=X.keeps fun b o e=>zbY e
 have at1:(zbc h C vs).get? (h.objs.size+1)=some (zgR C h.objs.size):=zer
 have cC:(Value.ref C::bm).contains (.ref C)=true:=by simp
 unfold isInstance
 repeat (first | with_reducible refine wpAny_loadPart_at at1 ?_ | (with_reducible refine wpAny_isSubtype_exc cO1 ?_;rw [cC]) | wp_step)
 show wpAny _ _ (typeLookup (.ref C) _) _ _ _
 refine (looks_findIn X1 hi).here (s:=⟨zbc h C vs,g,d,t,os⟩) ?_
 refine wpAny_holding (wpAny_bind ((bind_fn X1 _ hf).here (s:=⟨zbc h C vs,g,d,t,os⟩) ?_))
 refine wpAny_bind (wpAny_mono hq (fun r s' hr=>?_) fun _ _ x=>x)
 obtain ⟨e1,hQ⟩:=hr
 subst e1
 wp_walk
 exact hQ
theorem zhI {Q:Value→Shared→Prop}(X:K.In h)(q:xIn K C=true)(hi:findIn K (.ref C) "__init__" =some (some (.ref fI))) (hf:typeIn K (.ref fI)=some (.type "function"))
  (hq:wpAny (model prog w) (A.under (.builtin "type.__call__" ⟨.ref C::vs,[]⟩)) (call (.ref fI) (.ref (h.objs.size+1)::vs)) (fun r s'=>r=.none∧Q (.ref (h.objs.size+1)) s') E ⟨zbc h C vs,g,d,t,os⟩)
  (hz:vs.length≤sizeLine):wpAny (model prog w) A (call (.ref C) vs) Q E ⟨h,g,d,t,os⟩:=by
 obtain ⟨nm,qn,N,bs,bm,hd,sn,sub,ab,col,dd,k0,k1,k2,k3,k5,cO,tl⟩:=zi5 X q
 have l1:=tc_lookup
 have l2:=tc_bind (.ref C)
 have isT:(⟨h,g,d,t,os⟩:Shared).TypeIs (.ref C) "type" :=⟨_,cO,rfl⟩
 refine wpAny_call (codeAny_of_tree ?_)
 show wpAny _ _ (callAny (.ref C) _) _ _ _
 repeat (any_goals (first | assumption | with_reducible refine wpAny_loadPart_at cO ?_ | wp_step))
 refine ⟨rfl,?_⟩
 refine codeAny_call_builtin_at (Code.quiet_builtin _ (by decide+kernel)) entry_typeCall (wpAny_check_type_call_sub cO (zhN X q hi hf ?_ hz))
 exact hq
theorem zgo {s:Shared}{Q:Value→Shared→Prop}(X:K.In s.heap)(q:excIn K C bmV "ValueError.__new__" =true)
  (hq:∀h' e,Heap.MadeExcOf s.heap h' e (.ref C) vs→Q (.ref e) {s with heap:=h'}) (hz:vs.length≤sizeLine):wpAny (model prog w) A (call (.ref C) vs) Q E s:=by
 obtain ⟨h,g,d,t,os⟩:=s
 have FV:=PySem.F.excBase_ValueError
 have inV:bmV.contains (.type "ValueError")=true:=by decide
 unfold excIn at q
 split at q
 ·rename_i dd cd sl ho
  split at q
  ·rename_i D bm k0 k1 k2 k3 n k5 hm hs
   simp only [Bool.and_eq_true,beq_iff_eq,Bool.not_eq_true'] at q
   obtain ⟨⟨⟨⟨⟨y1,y2⟩,y3⟩,y4⟩,y5⟩,y6⟩:=q
   subst y1;subst y2
   obtain ⟨nm,bs,mro,ns,qn,hd,sn,sub,ab,col,del⟩:=cd
   dsimp only at hm y3 y5 y6
   subst hm;subst y3
   have e:sl= #[k0,k1,k2,k3,some (.builtin "ValueError.__new__"),k5]:=by
    obtain ⟨l⟩:=sl
    exact congrArg Array.mk hs
   subst e
   exact wpAny_call_exc_subU FV inV FV (tail_of_in X y4) (X _ _ ho) (.of_isNs (isNs_of_in X y5)) (nsMap_none_of_in X y5 y6) hq hz
  ·cases q
 ·cases q
end
section
variable {prog:Program}{w:World}{A:Around}{E:Value→Shared→Prop}{s:Shared}{env:Env}{K:Frag}
theorem zgv {x:Sem Value}{Q:Flow→Shared→Prop}(hh:A.handled=none)
  (h:wpAny (model prog w) A x (fun v s₁=>∃e C t oe,v=.ref e∧K.In s₁.heap∧xIn K C=true∧s₁.heap.get? e=some oe∧oe.cls=.ref C∧oe.data=.fields #[.ref t,.none,.none,.none,.bool false,.none]∧E (.ref e) s₁) E s):
  wpAny (model prog w) A (raiseStmt env (some x) none) Q E s:=by
 unfold raiseStmt
 refine wpAny_bind (wpAny_mono h (fun v s₁ h₁=>?_) fun _ _ x=>x)
 obtain ⟨e,C,t,oe,rfl,X,q,he,hc,hd,hE⟩:=h₁
 obtain ⟨nm,qn,N,bs,bm,hdc,sn,sub,ab,col,dd,k0,k1,k2,k3,k5,cO,tl⟩:=zi5 X q
 have cB:(Value.ref C::bm).contains (.type "BaseException")=true:=by rw [List.contains_cons,tl.hasType (show bmV.contains (.type "BaseException")=true from by decide),Bool.or_true]
 obtain ⟨hp,g,d,tk,os⟩:=s₁
 obtain ⟨c0,d0,dt,sl⟩:=oe
 dsimp only at hc hd
 subst hc;subst hd
 repeat (first | with_reducible refine wpAny_loadPart_at he ?_ | with_reducible refine wpAny_loadPart_at cO ?_ | (with_reducible refine wpAny_isSubtype_exc cO ?_;rw [cB]) | wp_step)
 exact wpAny_raiseNew_none hh hE
end
def zb9:List Value→Bool
 | []=>false
 | v::r=>(v::r)==bmV || (match v with | .ref _=>zb9 r | _=>false)
theorem zbJ {P:List Value→Prop}(base:P bmV)(own:∀c r,P r→P (.ref c::r)):∀{l:List Value},zb9 l=true→P l
 | [],e=>by cases e
 | v::r,e=>by
  unfold zb9 at e
  rcases Bool.or_eq_true_iff.mp e with q | q
  ·rw [beq_iff_eq.mp q];exact base
  ·cases v <;> first | exact own _ _ (zbJ base own q) | cases q
def zdm (K:Frag)(C:Addr):Bool:=(clsIn K C).any fun cd=>zb9 cd.mro && cd.hasDict
theorem zgD (self:Value){l:List Value}(e:zb9 l=true):refuseLoop self "__setattr__" l=pure ():=
 zbJ (P:=fun l=>refuseLoop self "__setattr__" l=pure ()) (PySem.F.store_ValueError.passes self) (fun c r q=>by rw [refuseLoop_ref];exact q) e
theorem zkH {v:Value}(hv:bmV.contains v=true){l:List Value}(e:zb9 l=true):l.contains v=true:=
 zbJ (P:=fun l=>l.contains v=true) hv (fun c r q=>by rw [List.contains_cons,q,Bool.or_true]) e
theorem zlH {l:List Value}(e:zb9 l=true):l.isEmpty=false:=by
 cases l with
 | nil=>cases e
 | cons _ _=>rfl
section
variable {prog:Program}{w:World}{A:Around}{E:Value→Shared→Prop}{s:Shared}{K:Frag}{x C:Addr}{ox:Obj}{name:Str}{v:Value}
theorem zgF {M:Model}{od:Option Obj}{T:String}(X:K.In s.heap)(I:InstAt s.heap x ox C od)(hp:zdm K C=true)(hT:bmV.contains (.type T)=true):Looks M s.heap (isInstance (.ref x) (.type T)) true:=by
 obtain ⟨cd,hc,ho⟩:=any_some hp
 obtain ⟨o1,o2⟩:=Bool.and_eq_true_iff.mp ho
 refine I.type.andThen (looks_mroIn X ?_)
 unfold mroIn
 rw [hc,Option.bind_some,if_neg (by rw [zlH o1];decide),zkH hT o1]
theorem ziM {R:Result→Shared→Prop}{od:Option Obj}{tk:Tok}(X:K.In s.heap)(I:InstAt s.heap x ox C od)(hp:zdm K C=true)(ht:findIn K (.ref C) name=some none)
  (h:∀b,wpAny (model prog w) A.in1 (storeInOwnDict (.ref x) (.ref C) (.str name tk) name v b)
   (fun fin s'=>match fin with
    | .done f=>R (.ok f) s'
    | .again c'=>c'.quiet=true∧codeAny (model prog w) A c' R s') (fun e s'=>R (.error e) s') s):
  codeAny (model prog w) A (.call (.builtin "object.__setattr__") ⟨[.ref x,.str name tk,v],[]⟩) R s:=by
 have FS:=PySem.F.store_ValueError
 have isO:=zgF (M:=model prog w) (T:= "object") X I hp (by decide)
 obtain ⟨cd,hc,ho⟩:=any_some hp
 obtain ⟨o1,o2⟩:=Bool.and_eq_true_iff.mp ho
 refine codeAny_call_builtin FS.slot.plain FS.entry (@check_slot (model prog w) _ _ s "object.__setattr__" "object" "__setattr__" (.ref x) [.str name tk,v] [] _ FS.kind FS.split isO (FS.args (.ref x) (.str name tk) v) ?_)
 have mr:Looks (model prog w) s.heap (mroOf (.ref C)) cd.mro:=(looks_clsIn X hc).andThen .now
 rw [osa_eq,refuse_eq]
 refine wpAny_bind (wpAny_bind (I.type.here (wpAny_bind (mr.here ?_))))
 rw [zgD _ o1]
 have nt:Looks (model prog w) s.heap (storeTaker? none) none:=.now
 refine wpAny_pure (wpAny_bind (I.type.here (wpAny_bind ((looks_findIn X ht).here (wpAny_bind (nt.here ?_))))))
 exact h _
theorem zlk {Q:Unit→Shared→Prop}{vs:Array Value}{sl:Array (Option Value)}(X:K.In s.heap)(hx:s.heap.get? x=some ⟨.ref C,none,.fields vs,sl⟩)(hp:zdm K C=true)
  (hs:findIn K (.ref C) "__setattr__" =some (some (.builtin "object.__setattr__"))) (ht:findIn K (.ref C) name=some none)
  (h:∀h' tk,h'.get? x=some ⟨.ref C,some s.heap.objs.size,.fields vs,sl⟩→h'.Ns1 s.heap.objs.size (fun y=>if y=name then some v else none)→s.heap.objs.size≤h'.objs.size→
   (∀b o,b≠x→s.heap.get? b=some o→h'.get? b=some o)→Q () {s with heap:=h',toks:=tk}):wpAny (model prog w) A (setAttr (.ref x) name v) Q E s:=by
 have I:InstAt s.heap x ⟨.ref C,none,.fields vs,sl⟩ C none:=⟨hx,rfl,rfl,trivial⟩
 obtain ⟨cd,hc,ho⟩:=any_some hp
 obtain ⟨o1,o2⟩:=Bool.and_eq_true_iff.mp ho
 refine set_plain X I hs (ziM (s:={s with toks:=s.toks+1}) X I hp ht fun b=>?_)
 refine wpAny_bind (wpAny_pure (wpAny_bind (wpAny_bind (wpAny_loadPart hx (wpAny_bind (Looks.here (s:={s with toks:=s.toks+1}) (looks_clsIn X hc) ?_))))))
 rw [o2]
 have hx1:(s.heap.push {cls:=.type "dict",data:=.dict #[]}).get? x=some ⟨.ref C,none,.fields vs,sl⟩:=Heap.get?_push_of_some _ hx
 have xs:x≠s.heap.objs.size:=Nat.ne_of_lt (Heap.lt_size hx)
 refine wpAny_bind (wpAny_alloc' ?_)
 refine wpAny_bind (wpAny_update' hx1 ?_)
 refine wpAny_pure ?_
 have gd:((s.heap.push {cls:=.type "dict",data:=.dict #[]}).update x fun o=>{o with dict:=some s.heap.objs.size}).get? s.heap.objs.size=some {cls:=.type "dict",data:=.dict #[]}:=
  (Heap.get?_update_other _ _ xs).trans (Heap.get?_push_size _ rfl)
 have gx:((s.heap.push {cls:=.type "dict",data:=.dict #[]}).update x fun o=>{o with dict:=some s.heap.objs.size}).get? x=some ⟨.ref C,some s.heap.objs.size,.fields vs,sl⟩:=
  Heap.get?_update_self _ hx1 rfl
 have nd:((s.heap.push {cls:=.type "dict",data:=.dict #[]}).update x fun o=>{o with dict:=some s.heap.objs.size}).Ns s.heap.objs.size (fun _=>none):=
  ⟨_, #[],_,gd,rfl,fun e he=>absurd he (by simp),fun _=>rfl⟩
 show wpAny _ _ (storeInDict s.heap.objs.size (.str name _) name v) _ _ _
 unfold storeInDict newKeyGuard
 refine wpAny_bind (wpAny_pure (wpAny_bind (wpAny_nsSet1 (Heap.Ns1.of_empty nd) fun h' n' sb=>?_)))
 obtain ⟨oD,esD,epD,q1,q2,q3⟩:=n'.count (Within.cons name v Within.nil)
 refine wpAny_bind (wpAny_lookBehind q1 (by rw [q2];exact pastItsLine_dict (Nat.le_trans q3 (by rw [List.length_cons,List.length_nil,sizeLine_eq];omega))) ?_)
 refine wpAny_pure (h h' _ ((sb.2 x xs).trans gx) n' ?_ fun b o bx e=>?_)
 ·rw [sb.1,Heap.size_after_update,Heap.size_push];exact Nat.le_succ _
 ·exact (sb.2 b (Nat.ne_of_lt (Heap.lt_size e))).trans ((Heap.get?_update_other _ _ (Ne.symm bx)).trans (Heap.get?_push_of_some _ e))
theorem zlK {Q:Unit→Shared→Prop}{vs:Array Value}{sl:Array (Option Value)}{dx:Addr}{mA:Str→Option Value}{ns:List Str}(X:K.In s.heap)(hx:s.heap.get? x=some ⟨.ref C,some dx,.fields vs,sl⟩)(hd:s.heap.Ns1 dx mA)(hp:zdm K C=true)
  (hs:findIn K (.ref C) "__setattr__" =some (some (.builtin "object.__setattr__"))) (ht:findIn K (.ref C) name=some none) (hw:Within mA ns) (hz:ns.length≤sizeLine)
  (h:∀h' tk,h'.Ns1 dx (fun y=>if y=name then some v else mA y)→Heap.SameBut dx s.heap h'→Q () {s with heap:=h',toks:=tk}):wpAny (model prog w) A (setAttr (.ref x) name v) Q E s:=by
 obtain ⟨od,es0,ep0,g1,g2⟩:=id hd
 have I:InstAt s.heap x ⟨.ref C,some dx,.fields vs,sl⟩ C (some od):=⟨hx,rfl,rfl,g1⟩
 obtain ⟨cd,hc,ho⟩:=any_some hp
 obtain ⟨o1,o2⟩:=Bool.and_eq_true_iff.mp ho
 refine set_plain X I hs (ziM (s:={s with toks:=s.toks+1}) X I hp ht fun b=>?_)
 refine wpAny_bind (wpAny_pure (wpAny_bind (wpAny_bind (wpAny_loadPart hx (wpAny_bind (Looks.here (s:={s with toks:=s.toks+1}) (looks_clsIn X hc) ?_))))))
 rw [o2]
 refine wpAny_pure (a:=some dx) (wpAny_bind (wpAny_pure (wpAny_bind ?_)))
 refine wpAny_nsSet1 (s:={s with toks:=s.toks+1}) hd fun h' n2 sb=>?_
 obtain ⟨oD,esD,epD,q1,q2,q3⟩:=n2.count (Within.cons name v hw)
 refine wpAny_bind (wpAny_lookBehind q1 (by rw [q2];exact pastItsLine_dict (Nat.le_trans q3 (by rw [List.length_cons];omega))) ?_)
 exact wpAny_pure (h _ _ n2 sb)
theorem zms {Q:Value→Shared→Prop}{expr:Bool}{od:Obj}(X:K.In s.heap)(I:InstAt s.heap x ox C (some od))(hp:zdm K C=true)
  (hga:findIn K (.ref C) "__getattribute__" =some (some (.builtin "BaseException.__getattribute__"))) (hgn:findIn K (.ref C) "__getattr__" =some none)
  (hf:findObj K C (some od) name=some (.value v)) (hh:handedIn v=true) (h:Q v {s with toks:=s.toks+1}):wpAny (model prog w) A (getAttr (.ref x) name expr) Q E s:=by
 have isB:=zgF (M:=model prog w) (T:= "BaseException") X I hp (by decide)
 obtain ⟨hp',g,d,t,os⟩:=s
 have L0:=I.type (M:=model prog w)
 have L1:=looks_findIn (M:=model prog w) X hga
 have L2:=looks_findIn (M:=model prog w) X hgn
 have L3:=looks_find (M:=model prog w) X I hf
 have FB:=PySem.F.attrBase_ValueError
 have bi:=FB.ga.bind (.ref x)
 have kd:builtinKind "BaseException.__getattribute__" =some .slot:=by decide+kernel
 have sp:splitId "BaseException.__getattribute__" =some ("BaseException","__getattribute__"):=by decide+kernel
 unfold getAttr getAttrBy
 refine wpAny_bind (wpAny_mkText (wpAny_holding (wpAny_bind (L0.at (wpAny_bind (L1.at ?_))))))
 have nb:(onTheHeap (Value.ref C) && Value.builtin "BaseException.__getattribute__" ==Value.builtin "object.__getattribute__")=false:=by
  rw [show (Value.builtin "BaseException.__getattribute__" ==Value.builtin "object.__getattribute__")=false from by decide+kernel,Bool.and_false]
 dsimp only
 rw [nb,if_neg Bool.false_ne_true]
 unfold getAttrByItsOwn
 refine wpAny_bind ?_
 show wpAny _ _ (typeLookup (.ref C) "__getattr__") _ _ _
 refine L2.at ?_
 have ne:(expr && onTheHeap (Value.builtin "BaseException.__getattribute__"))=false:=by cases expr <;> rfl
 unfold callGetattribute
 rw [ne,if_neg Bool.false_ne_true]
 unfold boundAndCalled
 refine wpAny_bind (wpAny_attempt (wpAny_holding ?_))
 rw [bi]
 refine wpAny_bind (wpAny_pure ?_)
 refine wpAny_call (codeAny_call_builtin FB.ga.plain PySem.F.entry_bexc_ga (@check_slot (model prog w) _ _ _ "BaseException.__getattribute__" "BaseException" "__getattribute__" (.ref x) [.str name t] [] _ kd sp isB (PySem.F.args_bexc_ga _ _) ?_))
 unfold Builtin.«object.__getattribute__»
 repeat (any_goals (first | assumption | with_reducible refine wpAny_bind (L0.at ?_) | with_reducible refine wpAny_bind (L3.at ?_) | wp_step))
 show wpAny _ _ (handedOut v) _ _ _
 rw [handedOut_of hh]
 exact wpAny_pure h
end
end Px
namespace L2
open PySem PySem.Spec PyProof.Rows Px
def exO (a C:Addr)(od:Option Addr)(fr:Bool):HO:=.ext fun h=>∃vs sl,h.get? a=some ⟨.ref C,od,.fields vs,sl⟩∧(fr=true→∃t,vs= #[.ref t,.none,.none,.none,.bool false,.none])
def xdO (a:Addr)(fs:List (Str ×V)):HO:=.ext fun h=>∃mA,h.Ns1 a mA∧(∀f,RelO (fs.lookup f) (mA f))∧PySem.Within mA (fs.map (·.1))
def del (H:Hp)(a:Addr):Hp:=fun b=>if b=a then none else H b
theorem zbP {H:Hp}{a:Addr}:del H a a=none:=by unfold del;rw [if_pos rfl]
theorem zbv {H:Hp}{a b:Addr}(h:b≠a):del H a b=H b:=by unfold del;rw [if_neg h]
theorem zd2 {H:Hp}{a:Addr}{o:HO}(h:H a=none):del (upd H a o) a=H:=by
 funext b
 unfold del upd
 by_cases e:b=a
 ·rw [if_pos e,e,h]
 ·rw [if_neg e,if_neg e]
section
variable {P:Program}{w:World}{H H':Hp}{h h' h2:Heap}{a C:Addr}{o:HO}{fs ex fs':List Addr}{own:Addr→Prop}
theorem zfc {od:Option Addr}{fr:Bool}{vs:Array Value}{sl:Array (Option Value)}(e:h.get? a=some ⟨.ref C,od,.fields vs,sl⟩)(f:fr=true→∃t,vs= #[.ref t,.none,.none,.none,.bool false,.none]):z6 P w H h a (exO a C od fr):=
 ⟨⟨vs,sl,e,f⟩,⟨_,e⟩,fun _ _ ⟨vs,sl,e,f⟩ k=>⟨vs,sl,k _ e,f⟩⟩
theorem zcg {od:Option Addr}{fr:Bool}(ok:HOk P w H h)(e:H a=some (exO a C od fr)):∃vs sl,h.get? a=some ⟨.ref C,od,.fields vs,sl⟩∧(fr=true→∃t,vs= #[.ref t,.none,.none,.none,.bool false,.none]):=
 (show z6 P w H h a (exO a C od fr) from ok a _ e).1
theorem ziy {l:List (Str ×V)}{mA:Str→Option Value}(n:h.Ns1 a mA)(r:∀f,RelO (l.lookup f) (mA f))(wi:PySem.Within mA (l.map (·.1))):z6 P w H h a (xdO a l):=
 ⟨⟨mA,n,r,wi⟩,let ⟨o,_,_,e,_⟩:=n;⟨o,e⟩,fun _ _ ⟨mA,n,r,wi⟩ k=>⟨mA,n.at k,r,wi⟩⟩
theorem ze1 {l:List (Str ×V)}(ok:HOk P w H h)(e:H a=some (xdO a l)):∃mA,h.Ns1 a mA∧(∀f,RelO (l.lookup f) (mA f))∧PySem.Within mA (l.map (·.1)):=
 (show z6 P w H h a (xdO a l) from ok a _ e).1
theorem HOk.track (x:HOk P w H h)(n:H a=none)(new:z6 P w (upd H a o) h a o):HOk P w (upd H a o) h:=fun b u e=>by
 by_cases hb:b=a
 ·subst hb;rw [zf] at e;cases e;exact new
 ·rw [zq hb] at e
  exact (x b u e).stay (fun _ _ _ q=>q) (fun c q=>by rw [zq (zr q n)];exact q) fun c xs q=>by rw [zq (zr q n)];exact q
theorem Un.track (u:Un fs ex H H' h h')(n:H' a=none)(nw:∀ob,h.get? a=some ob→a∈ex∨H a≠none):Un fs ex H (upd H' a o) h h' where
 keep:=u.keep
 slot:=u.slot
 free:=fun b ob q m hx=>by
  rw [zq]
  ·exact u.free b ob q m hx
  ·intro e
   subst e
   rcases nw ob q with z | z
   ·exact hx z
   ·exact z m
 there:=u.there
 tups:=fun b xs q=>by rw [zq (zr (u.tups b xs q) n)];exact u.tups b xs q
 frzs:=fun b ob v q=>by rw [zq (zr (u.frzs b ob v q) n)];exact u.frzs b ob v q
 tbls:=fun b ps q=>by
  obtain ⟨m,e⟩:=u.tbls b ps q
  exact ⟨m,by rw [zq (zr e n)];exact e⟩
theorem HOk.drop {φ:Heap→Prop}(x:HOk P w H h)(e:H a=some (.ext φ)):HOk P w (del H a) h:=fun b u q=>by
 by_cases hb:b=a
 ·rw [hb,zbP] at q;cases q
 ·rw [zbv hb] at q
  exact (x b u q).stay (fun _ _ _ z=>z) (fun c z=>by rw [zbv (zbg z e (by intro y;cases y))];exact z) fun c xs z=>by rw [zbv (zbg z e (by intro y;cases y))];exact z
theorem Un.drop {φ:Heap→Prop}(u:Un fs ex H H' h h')(e:H' a=some (.ext φ)):Un fs ex H (del H' a) h h' where
 keep:=u.keep
 slot:=u.slot
 free:=fun b ob q m hx=>by
  by_cases hb:b=a
  ·rw [hb];exact zbP
  ·rw [zbv hb];exact u.free b ob q m hx
 there:=u.there
 tups:=fun b xs q=>by rw [zbv (zbg (u.tups b xs q) e (by intro y;cases y))];exact u.tups b xs q
 frzs:=fun b ob v q=>by rw [zbv (zbg (u.frzs b ob v q) e (by intro y;cases y))];exact u.frzs b ob v q
 tbls:=fun b ps q=>by
  obtain ⟨m,z⟩:=u.tbls b ps q
  exact ⟨m,by rw [zbv (zbg z e (by intro y;cases y))];exact z⟩
theorem Un.chg (u:Un fs ex H H' h h')(c:Chg2 fs' own h' h2)(hfs:∀b ob,h.get? b=some ob→b∈fs'→b∈fs)
  (nw:∀b,own b→h.get? b=none∨(H b≠none∧∃o',h2.get? b=some o')):Un fs ex H H' h h2:=by
 have no:∀b ob,h.get? b=some ob→H b=none→¬own b:=fun b ob q n z=>by
  rcases nw b z with y | y
  ·rw [y] at q;cases q
  ·exact y.1 n
 refine ⟨fun b ob q n hb hx=>c.keep b ob (u.keep b ob q n hb hx) (fun z=>hb (hfs b ob q z)) (no b ob q n),fun b ob q n hb hx=>?_,u.free,fun b ob q hx=>?_,u.tups,u.frzs,u.tbls⟩
 ·obtain ⟨sl,e⟩:=u.slot b ob q n hb hx
  by_cases z:b∈fs'
  ·obtain ⟨s2,e2⟩:=c.slot b _ e z (no b ob q n)
   exact ⟨s2,e2⟩
  ·exact ⟨sl,c.keep b _ e z (no b ob q n)⟩
 ·obtain ⟨o',e⟩:=u.there b ob q hx
  by_cases y:own b
  ·rcases nw b y with z | z
   ·rw [z] at q;cases q
   ·exact z.2
  ·by_cases z:b∈fs'
   ·obtain ⟨s2,e2⟩:=c.slot b _ e z y
    exact ⟨_,e2⟩
   ·exact ⟨_,c.keep b _ e z y⟩
theorem HOk.chg (x:HOk P w H h)(c:Chg2 fs' own h h2)(n1:∀b,own b→H b=none)(n2:∀b∈fs',H b=none):HOk P w H h2:=fun b u e=>by
 have k:∀c' v,(∃z,H c'=some z)→h.get? c'=some v→h2.get? c'=some v:=fun c' v ⟨z,hz⟩ q=>
  c.keep c' v q (fun m=>by rw [n2 c' m] at hz;cases hz) (fun m=>by rw [n1 c' m] at hz;cases hz)
 refine (x b u e).stay (fun c' v hc q=>k c' v ?_ q) (fun _ q=>q) fun _ _ q=>q
 rcases hc with z | z
 ·rw [z];exact ⟨_,e⟩
 ·exact ⟨_,z⟩
end
section
variable {X:Cx}{pins:List (Addr ×Obj)}{σ:St}{H:Hp}{s:Shared}{h':Heap}
theorem z6.thereN {P:Program}{w:World}{H:Hp}{h:Heap}{a:Addr}{u:HO}(x:z6 P w H h a u):∃ob,h.get? a=some ob:=by
 cases u with
 | lst xs=>obtain ⟨_,_,_,_,e⟩:=x;exact ⟨_,e⟩
 | tup xs=>obtain ⟨_,_,_,ob,e,_⟩:=x;exact ⟨_,e⟩
 | dK kvs=>obtain ⟨_,_,_,_,o,_,_,e,_⟩:=x;exact ⟨_,e⟩
 | dT kvs=>obtain ⟨_,_,_,_,o,_,_,e,_⟩:=x;exact ⟨_,e⟩
 | set S n=>obtain ⟨o,_,_,_,e,_⟩:=x;exact ⟨_,e⟩
 | ins C dx fs=>obtain ⟨_,_,_,e,_⟩:=x;exact ⟨_,e⟩
 | own y=>exact x
 | xd fs=>obtain ⟨_,⟨_,_,_,e,_⟩,_⟩:=x;exact ⟨_,e⟩
 | rng lo hi=>obtain ⟨_,_,_,e⟩:=x;exact ⟨_,e⟩
 | frz ob u=>obtain ⟨e,_⟩:=x;exact ⟨_,e⟩
 | tbl ps=>exact ⟨_,(show h.get? a=some _ from x)⟩
 | met f y=>exact ⟨_,(show h.get? a=some _ from x)⟩
 | ext φ=>exact x.2.1
theorem HOk.noneN {P:Program}{w:World}{H:Hp}{h:Heap}{a:Addr}(x:HOk P w H h)(n:h.get? a=none):H a=none:=by
 cases q:H a with
 | none=>rfl
 | some u=>
  obtain ⟨ob,z⟩:=(x a u q).thereN
  rw [n] at z;cases z
theorem Inv.laidN {a:Addr}{o:HO}{t':Nat}(I:Inv X pins σ H s)(k:∀b u,s.heap.get? b=some u→h'.get? b=some u)(hp:s.heap.get? a=none)(new:z6 X.prog X.w (upd H a o) h' a o):
  Inv X pins σ (upd H a o) {s with heap:=h',toks:=t'}:=by
 have n:H a=none:=I.hok.noneN hp
 exact I.un ((Un.kept k).track n fun ob q=>by rw [hp] at q;cases q) ((I.hok.kept k).track n new)
end
def CX1 (P:Program)(w:World):CXT:=fun outer H s E e s'=>∃(ea:Addr) (cls:Value) (od:Option Addr) (H':Hp) (T:Addr),e=.ref ea∧s'.os=s.os∧AllBare s'.gens∧Un (frs outer) [] H H' s.heap s'.heap∧HOk P w H' s'.heap∧
 Tb s'.heap ea cls od T .none∧(s.heap.get? ea=none∨H ea≠none)∧s.heap.get? T=none∧H' ea=none∧H' T=none∧E cls od H'
theorem zbW {fs ex:List Addr}{H H':Hp}{h h':Heap}{b:Addr}(u:Un fs ex H H' h h')(hx:b∉ex)(n:h'.get? b=none):h.get? b=none:=by
 cases q:h.get? b with
 | none=>rfl
 | some o=>
  obtain ⟨o',e⟩:=u.there b o q hx
  rw [n] at e;cases e
section
variable {P:Program}{w:World}{K:PySem.W.Frag}{mg:Str→Option Value}{base:Heap}{N:List Str}{qual:Str}{scope:Scope}{f:Addr}{cd:Value}{A:Around}{outer:List Env}{s₀:Shared}{H₀:Hp}{E:XK}
def zge (X:Cx)(E:XK):Prop:=∀(pins:List (Addr ×Obj)) (σ:St) (H:Hp) (s:Shared) (e C:Addr) (od:Option Addr),Inv X pins σ H s→H e=some (exO e C od true)→E (.ref C) od (del H e)→X.xe (.ref e) s
theorem zdg:zge (cxOf (CX1 P w) P w K mg base N qual scope f cd A outer s₀ H₀ E) E:=by
 intro pins σ H s e C od I he q
 obtain ⟨vs,sl,ge,fr⟩:=zcg I.hok he
 obtain ⟨t,rfl⟩:=fr rfl
 show wpAny (model P w) (A.deeper _) (leaving _ (.ref e)) _ _ s
 refine zl1 (base:=base) I.ok.frames I.stack rfl ge rfl rfl fun h' T' z tb c=>?_
 have nT:s.heap.get? T'=none:=Heap.get?_none_of_le z
 have old:s₀.heap.get? e=none∨H₀ e≠none:=by
  cases q1:s₀.heap.get? e with
  | none=>exact .inl rfl
  | some ob=>
   refine .inr fun n=>?_
   have:=I.base.free e ob q1 n (by intro z;cases z)
   rw [he] at this;cases this
 have fr2:∀b∈frs (envOfC qual scope s₀.heap.objs.size f cd::outer),H b=none:=I.stkFree
 have te:∃o',h'.get? e=some o':=let ⟨oe,_,_,_,y,_⟩:=tb;⟨oe,y⟩
 refine ⟨e,.ref C,od,del H e,T',rfl,I.os,I.bare,?_,?_,tb,old,zbW I.base (by intro z;cases z) nT,zbP,?_,q⟩
 ·refine (I.base.drop he).chg (fs':=frs (envOfC qual scope s₀.heap.objs.size f cd::outer)) c (fun b ob q1 q2=>?_) fun b y=>?_
  ·have lt:=Heap.lt_size q1
   rcases List.mem_cons.mp (I.stkSub b q2) with y | y
   ·exact absurd lt (by rw [y];exact Nat.not_lt.mpr (Nat.le_refl _))
   ·exact y
  ·subst y
   rcases old with y | y
   ·exact .inl y
   ·exact .inr ⟨y,te⟩
 ·refine (I.hok.drop he).chg c (fun b y=>by rw [y];exact zbP) fun b y=>?_
  by_cases hb:b=e
  ·rw [hb];exact zbP
  ·rw [zbv hb];exact fr2 b y
 ·have:H T'=none:=I.hok.fresh z
  by_cases hb:T'=e
  ·rw [hb];exact zbP
  ·rw [zbv hb];exact this
def zc8 (CX:CXT)(X:Cx)(E:St→XK):Prop:=∀(pins:List (Addr ×Obj)) (σ:St) (H:Hp) (s:Shared) (e:Value) (s':Shared),Inv X pins σ H s→CX X.stack H s (E σ) e s'→X.xe e s'
theorem zD:zbH (CX1 P w) (cxOf (CX1 P w) P w K mg base N qual scope f cd A outer s₀ H₀ E) E:=by
 intro pins σ H s e s' I0 hc
 obtain ⟨ea,cls,od,H',T,rfl,os,bare,un,hok,tb,old,nT,u1,u2,q⟩:=hc
 have I:=I0.call' os un hok bare (fun b z=>nomatch z)
 show wpAny (model P w) (A.deeper _) (leaving _ (.ref ea)) _ _ s'
 refine zlO (base:=base) I.ok.frames I.stack rfl tb fun h' T' z tb' c=>?_
 have nT':s'.heap.get? T'=none:=Heap.get?_none_of_le z
 have old':s₀.heap.get? ea=none∨H₀ ea≠none:=by
  cases q1:s₀.heap.get? ea with
  | none=>exact .inl rfl
  | some ob=>
   refine .inr fun n=>?_
   rcases old with y | y
   ·have y':s₀.heap.get? ea=none:=zbW I0.base (by intro z;cases z) y
    rw [y'] at q1;cases q1
   ·exact y (I0.base.free ea ob q1 n (by intro z;cases z))
 have te:∃o',h'.get? ea=some o':=let ⟨oe,_,_,_,y,_⟩:=tb';⟨oe,y⟩
 have n0:s₀.heap.get? T=none:=zbW I0.base (by intro z;cases z) nT
 refine ⟨ea,cls,od,H',T',rfl,I.os,I.bare,?_,?_,tb',old',zbW I.base (by intro z;cases z) nT',u1,hok.fresh z,q⟩
 ·refine I.base.chg (fs':=frs (envOfC qual scope s₀.heap.objs.size f cd::outer)) c (fun b ob q1 q2=>?_) fun b y=>?_
  ·have lt:=Heap.lt_size q1
   rcases List.mem_cons.mp (I.stkSub b q2) with y | y
   ·exact absurd lt (by rw [y];exact Nat.not_lt.mpr (Nat.le_refl _))
   ·exact y
  ·rcases y with y | y
   ·subst y
    rcases old' with y | y
    ·exact .inl y
    ·exact .inr ⟨y,te⟩
   ·subst y;exact .inl n0
 ·refine hok.chg c (fun b y=>?_) I.stkFree
  rcases y with y | y
  ·rw [y];exact u1
  ·rw [y];exact u2
end
end L2
namespace L2
open PySem PySem.Spec PyProof.Rows Px
structure XCls (K:PySem.W.Frag)(C:Addr):Prop where
 q:xIn K C=true
 ov:zdm K C=true
 sa:PySem.W.findIn K (.ref C) "__setattr__" =some (some (.builtin "object.__setattr__"))
 ga:PySem.W.findIn K (.ref C) "__getattribute__" =some (some (.builtin "BaseException.__getattribute__"))
 gn:PySem.W.findIn K (.ref C) "__getattr__" =some none
 kp:PySem.W.keepIn K (.ref C)=true
theorem XCls.hd {K:PySem.W.Frag}{C:Addr}(c:XCls K C):PySem.W.hasDictIn K C=true:=by
 obtain ⟨cd,hc,ho⟩:=PySem.W.any_some c.ov
 unfold PySem.W.hasDictIn
 rw [hc]
 exact (Bool.and_eq_true_iff.mp ho).2
def tExc (C:Addr)(t:TA):TE:=fun σ H Q=>t σ H fun vs H1=>vs.length≤sizeLine∧∀e,H1 e=none→Q (.ref e) (upd H1 e (exO e C none true))
def zk6 (C:Addr)(sp:Sp)(t:TA):TE:=fun σ H Q=>t σ H fun vs H1=>vs.length≤sizeLine∧∀x,H1 x=none→sp (.ref x::vs) (upd H1 x (exO x C none true)) (fun v H2=>v=.non∧Q (.ref x) H2) E0
section
variable {X:Cx}{k:Nat}{f C:Addr}{fd:FuncData}{ps:List Str}{sp:Sp}{x:Str}{p pos:Pos}{e:Expr}{es:List Expr}{t:TA}
theorem zlA (c:XCls X.K C)(hq:PySem.W.excIn X.K C bmV "ValueError.__new__" =true) (hg:Gl X x) (hm:X.mg x=some (.ref C)) (ha:PA X (e::es) t)
  (hdb:(x==("__debug__" :Str))=false:=by decide) (he:starEach (e::es) X.env=(false,eval e X.env)::starEach es X.env:=by rfl) (hpl:(backTo pos (starEach es X.env)).any (·.1)=false:=by rfl):
  PE X (.Call (.Name x p) (e::es) [] pos) (tExc C t):=by
 intro pins s σ H Q I h
 refine wpAny_Call_Name_kw (zcl I hg hm ?_ hdb)
 refine PySem.W.callWith_K (h₀:=X.base) I.ok.mod.kin c.kp (thn (ha pos pins s σ H _ I h) fun us s1 ⟨vs,H1,I1,r,z,q⟩=>⟨I1.kIn,?_⟩) he hpl
 refine zgo I1.kIn hq (fun h' ea mk=>?_) (show us.length≤sizeLine by rw [←r.length];exact z)
 obtain ⟨t,ge,nt,gt⟩:=mk.there
 exact ⟨.ref ea,_,I1.laidN (t':=s1.toks) mk.keeps mk.new (zfc ge fun _=>⟨t,rfl⟩),rfl,q ea (I1.hok.noneN mk.new)⟩
theorem zkI (c:XCls X.K C)(hi:PySem.W.findIn X.K (.ref C) "__init__" =some (some (.ref f))) (hf:PySem.W.isFn X.K (.ref f)=true) (F:FnOk X.prog X.w X.K X.mg X.base CX0 k f fd ps sp) (hr:Room (k+1) X.A) (hb:Binds X.K fd ps [])
  (hg:Gl X x) (hm:X.mg x=some (.ref C)) (ha:PA X (e::es) t)
  (hdb:(x==("__debug__" :Str))=false:=by decide) (he:starEach (e::es) X.env=(false,eval e X.env)::starEach es X.env:=by rfl) (hpl:(backTo pos (starEach es X.env)).any (·.1)=false:=by rfl):
  PE X (.Call (.Name x p) (e::es) [] pos) (zk6 C sp t):=by
 intro pins s σ H Q I h
 refine wpAny_Call_Name_kw (zcl I hg hm ?_ hdb)
 refine PySem.W.callWith_K (h₀:=X.base) I.ok.mod.kin c.kp (thn (ha pos pins s σ H _ I h) fun us s1 ⟨vs,H1,I1,r,z,q⟩=>⟨I1.kIn,?_⟩) he hpl
 have I2:Inv X pins σ (upd H1 (s1.heap.objs.size+1) (exO (s1.heap.objs.size+1) C none true)) {s1 with heap:=zbc s1.heap C us}:=
  I1.laidN (t':=s1.toks) (fun _ _ y=>zbY y) (Heap.get?_none_of_le (Nat.le_succ _)) (zfc zer fun _=>⟨_,rfl⟩)
 have hq:=q (s1.heap.objs.size+1) (I1.hok.fresh (Nat.le_succ _))
 have r2:Vals (V.ref (s1.heap.objs.size+1)::vs) (Value.ref (s1.heap.objs.size+1)::us):=.cons rfl r
 have hl:((Value.ref (s1.heap.objs.size+1)::us)++ []).length=ps.length:=by
  rw [List.append_nil,←r2.length];exact F.len _ _ _ _ hq
 have hz:us.length≤sizeLine:=by rw [←r.length];exact z
 obtain ⟨h1,g1,d1,t1,o1⟩:=s1
 refine zhI I1.kIn c.q hi (beq_iff_eq.mp hf) ?_ hz
 have hbb:=hb _ (Value.ref (h1.objs.size+1)::us) I2.kIn hl
 rw [List.append_nil] at hbb
 refine wpAny_call (codeAny_mono (F.run _ X.stack _ _ ⟨Value.ref (h1.objs.size+1)::us,[]⟩ (Value.ref (h1.objs.size+1)::us) _ _ E0 (hr.make C us []) (I2.env0.make C us []) hbb r2 hq) fun r s' hq'=>?_)
 cases r with
 | error e=>exact False.elim hq'
 | ok fl=>
  cases fl with
  | ret u=>
   obtain ⟨v,H',I3,rv,ev,q3⟩:=I2.after hq'
   subst ev
   exact ⟨rv,⟨V.ref (h1.objs.size+1),H',I3,rfl,q3⟩⟩
  | next=>exact False.elim hq'
  | brk=>exact False.elim hq'
  | cont=>exact False.elim hq'
end
def zlM (K:PySem.W.Frag)(te:TE)(E:XK):TS:=fun D σ H=>te σ H fun v H1=>∃e C od,v=.ref e∧H1 e=some (exO e C od true)∧xIn K C=true∧E (.ref C) od (del H1 e)
theorem zdb {X:Cx}{E:XK}{ex:Expr}{te:TE}{pos:Pos}(hx:zge X E)(hc:X.calm=true)(he:PE X ex te):PS X (.Raise (some ex) none pos) (zlM X.K te E):=by
 intro pins s σ H D I h
 rw [arm_exec_Raise]
 refine wpAny_bind (wpAny_standAt ?_)
 refine zgv (K:=X.K) (I.ok.hd hc) ?_
 refine wpAny_bind (wpAny_mono (he pins s σ H _ I h) (fun v s1 hv=>wpAny_bind (wpAny_standAt (wpAny_pure ?_))) fun _ _ z=>z)
 obtain ⟨y,H1,I1,ry,ea,C,od,rfl,hea,qC,hE⟩:=hv
 obtain rfl:v=Value.ref ea:=ry
 obtain ⟨vs,sl,ge,fr⟩:=zcg I1.hok hea
 obtain ⟨t,rfl⟩:=fr rfl
 exact ⟨ea,C,t,_,rfl,I1.kIn,qC,ge,rfl,rfl,hx pins σ H1 s1 ea C od I1 hea hE⟩
def sXF1 (K:PySem.W.Frag)(ta tv:TE)(f:Str):TS:=fun D σ H=>tv σ H fun y H1=>ta σ H1 fun x H2=>∃a C fr,x=.ref a∧H2 a=some (exO a C none fr)∧XCls K C∧zaf K C f∧
 ∀d,H2 d=none→d≠a→D.nx σ (upd (upd H2 d (xdO d [(f,y)])) a (exO a C (some d) fr))
def sXF2 (K:PySem.W.Frag)(ta tv:TE)(f:Str):TS:=fun D σ H=>tv σ H fun y H1=>ta σ H1 fun x H2=>∃a C fr d l,x=.ref a∧H2 a=some (exO a C (some d) fr)∧H2 d=some (xdO d l)∧d≠a∧XCls K C∧zaf K C f∧l.length < 1000∧
 D.nx σ (upd H2 d (xdO d (putF f y l)))
def tXG (K:PySem.W.Frag)(ta:TE)(f:Str):TE:=fun σ H Q=>ta σ H fun x H1=>∃a C fr d l v,x=.ref a∧H1 a=some (exO a C (some d) fr)∧H1 d=some (xdO d l)∧XCls K C∧zaf K C f∧l.lookup f=some v∧Q v H1
section
variable {X:Cx}{o e value:Expr}{f:Str}{pos pos':Pos}{ta tv:TE}
theorem zlG (ha:PE X o ta)(hv:PE X value tv)(hs:swapsWith value (some (.Attribute o f pos')) pos.line X.env=pure false):PS X (.Assign [.Attribute o f pos'] value pos) (sXF1 X.K ta tv f):=by
 intro pins s σ H D I h
 refine plainObj_wpAny_Assign_Attribute (thn (hv pins s σ H _ I h) fun u s1 ⟨y,H1,I1,ry,q⟩=>thn (ha pins s1 σ H1 _ I1 q) fun ov s2 ⟨x,H2,I2,rx,a,C,fr,ex,ea,c,n,q2⟩=>?_) hs
 subst ex
 obtain rfl:ov=Value.ref a:=rx
 obtain ⟨vs,sl,ge,hfr⟩:=zcg I2.hok ea
 refine zlk I2.kIn ge c.ov c.sa n fun h' tk gx nd sz kp=>?_
 have nd0:H2 s2.heap.objs.size=none:=I2.hok.fresh (Nat.le_refl _)
 have da:s2.heap.objs.size≠a:=Ne.symm (Nat.ne_of_lt (Heap.lt_size ge))
 have na:∀b,H2 b=none→b≠a:=fun b z y=>by rw [y,ea] at z;cases z
 refine ⟨σ,_,?_,q2 _ nd0 da⟩
 refine I2.un (h':=h') (t':=tk) ⟨fun b ob g z _ _=>kp b ob (na b z) g,fun b ob g z _ _=>⟨ob.slots,kp b ob (na b z) g⟩,fun b ob g z _=>?_,fun b ob g _=>?_,fun b xs g=>?_,fun b ob v g=>?_,fun b ps g=>?_⟩ fun b w g=>?_
 ·rw [zq (na b z),zq (Nat.ne_of_lt (Heap.lt_size g))];exact z
 ·by_cases y:b=a
  ·rw [y];exact ⟨_,gx⟩
  ·exact ⟨_,kp b ob y g⟩
 ·rw [zq (zbg g ea (by intro y;cases y)),zq (zr g nd0)];exact g
 ·rw [zq (zbg g ea (by intro y;cases y)),zq (zr g nd0)];exact g
 ·exact ⟨#[],by rw [zq (zbg g ea (by intro y;cases y)),zq (zr g nd0),g];simp⟩
 ·by_cases yy:b=a
  ·subst yy
   rw [zf] at g;cases g
   exact zfc gx hfr
  ·rw [zq yy] at g
   by_cases y2:b=s2.heap.objs.size
   ·subst y2
    rw [zf] at g;cases g
    refine ziy nd (fun j=>?_) fun j hj=>?_
    ·show RelO ([(f,y)].lookup j) _
     by_cases e:j=f
     ·have hb:(j==f)=true:=beq_iff_eq.mpr e
      rw [if_pos e]
      simp only [List.lookup,hb]
      assumption
     ·have hb:(j==f)=false:=beq_eq_false_iff_ne.mpr e
      rw [if_neg e]
      simp only [List.lookup,hb]
      exact True.intro
    ·by_cases e:j=f
     ·rw [e];exact List.mem_cons_self
     ·rw [if_neg e] at hj;exact absurd rfl hj
   ·rw [zq y2] at g
    refine (I2.hok b w g).stay (fun c' v hc gg=>kp c' v ?_ gg) (fun c' z=>?_) fun c' xs z=>?_
    ·rcases hc with z | z
     ·rw [z];exact yy
     ·exact zbg z ea (by intro y;cases y)
    ·rw [zq (zbg z ea (by intro y;cases y)),zq (zr z nd0)];exact z
    ·rw [zq (zbg z ea (by intro y;cases y)),zq (zr z nd0)];exact z
theorem zlU (ha:PE X o ta)(hv:PE X value tv)(hs:swapsWith value (some (.Attribute o f pos')) pos.line X.env=pure false):PS X (.Assign [.Attribute o f pos'] value pos) (sXF2 X.K ta tv f):=by
 intro pins s σ H D I h
 refine plainObj_wpAny_Assign_Attribute (thn (hv pins s σ H _ I h) fun u s1 ⟨y,H1,I1,ry,q⟩=>thn (ha pins s1 σ H1 _ I1 q) fun ov s2 ⟨x,H2,I2,rx,a,C,fr,d,l,ex,ea,ed,da,c,n,ll,q2⟩=>?_) hs
 subst ex
 obtain rfl:ov=Value.ref a:=rx
 obtain ⟨vs,sl,ge,hfr⟩:=zcg I2.hok ea
 obtain ⟨mA,ns,rl,wi⟩:=ze1 I2.hok ed
 have hz:(l.map (·.1)).length≤sizeLine:=by rw [List.length_map,sizeLine_eq];omega
 refine zlK I2.kIn ge ns c.ov c.sa n wi hz fun h' tk nd sb=>?_
 have hd:∃o,h'.get? d=some o:=let ⟨o,_,_,e',_⟩:=nd;⟨o,e'⟩
 refine ⟨σ,_,I2.write (x:=d) (e:=d) (t':=tk) (by rw [ed];exact True.intro) (.inl rfl) (fun b w hb z=>(sb.2 b hb).trans z) hd (ziy nd (fun g=>?_) fun g hg=>?_),q2⟩
 ·rw [zcw]
  by_cases z:g=f
  ·rw [if_pos z,if_pos z];exact ry
  ·rw [if_neg z,if_neg z];exact rl g
 ·by_cases z:g=f
  ·rw [z];exact (zbU f y l).1
  ·refine (zbU f y l).2 g (wi g fun w=>hg ?_)
   show (if g=f then some u else mA g)=none
   rw [if_neg z];exact w
theorem zmI (he:PE X e ta)(hb:attributeBase e f X.env (eval e X.env)=eval e X.env):PE X (.Attribute e f pos) (tXG X.K ta f):=by
 intro pins s σ H Q I h
 refine zhr hb (thn (he pins s σ H _ I h) fun u s1 ⟨x,H1,I1,rx,a,C,fr,d,l,v,ex,ea,ed,c,n,lk,q⟩=>?_)
 subst ex
 obtain rfl:u=Value.ref a:=rx
 obtain ⟨vs,sl,ge,hfr⟩:=zcg I1.hok ea
 obtain ⟨mA,ns,rl,wi⟩:=ze1 I1.hok ed
 obtain ⟨w,hw,rw'⟩:=RelO.some_of (v:=v) (o:=mA f) (by rw [←lk];exact rl f)
 obtain ⟨ob,hob,hl⟩:=zdD ns
 have J:PySem.W.InstAt s1.heap a ⟨.ref C,some d,.fields vs,sl⟩ C (some ob):=⟨ge,rfl,rfl,hob⟩
 exact zms I1.kIn J c.ov c.ga c.gn (PySem.W.findObj_own c.hd n rfl (by rw [hl,hw])) (zeG rw') ⟨v,H1,I1.tok _,rw',q⟩
end
def zil (sp:Sp)(E:St→XK)(t:TA):TE:=fun σ H Q=>t σ H fun vs H1=>sp vs H1 Q (E σ)
def znc (C:Addr)(m:Str)(sp:Sp)(E:St→XK)(ta:TE)(t:TA):TE:=fun σ H Q=>ta σ H fun x H1=>∃a dx fs,x=.ref a∧H1 a=some (.ins C dx fs)∧fs.lookup m=none∧t σ H1 fun vs H2=>sp (x::vs) H2 Q (E σ)
section
variable {X:Cx}{CX:CXT}{k:Nat}{f C:Addr}{fd:FuncData}{ps:List Str}{sp:Sp}{E:St→XK}{x m:Str}{p pos apos:Pos}{e o:Expr}{es:List Expr}{ta:TE}{t:TA}
theorem zkp {pins:List (Addr ×Obj)}{σ:St}{H:Hp}{s:Shared}{Q:VK}{us:List Value}{vs:List V}(F:FnOk X.prog X.w X.K X.mg X.base CX k f fd ps sp)(hr:Room k X.A)(hb:Binds X.K fd ps [])(hx:zc8 CX X E)
  (I:Inv X pins σ H s) (r:Vals vs us) (h:sp vs H Q (E σ)):wpAny (model X.prog X.w) X.A (call (.ref f) us) (EP X pins σ Q) X.xe s:=by
 have hl:(us++ []).length=ps.length:=by rw [List.append_nil,←r.length];exact F.len _ _ _ _ h
 have hbb:=hb s us I.kIn hl
 rw [List.append_nil] at hbb
 refine wpAny_call (codeAny_mono (F.run X.A X.stack s H ⟨us,[]⟩ us vs Q (E σ) hr I.env0 hbb r h) fun r s' hq=>?_)
 cases r with
 | error e=>exact hx pins σ H s e s' I hq
 | ok fl=>
  cases fl with
  | ret u=>exact I.after hq
  | next=>exact False.elim hq
  | brk=>exact False.elim hq
  | cont=>exact False.elim hq
theorem zjy (F:FnOk X.prog X.w X.K X.mg X.base CX k f fd ps sp)(hr:Room k X.A)(hg:Gl X x)(hm:X.mg x=some (.ref f))(hk:PySem.W.keepIn X.K (.ref f)=true)(hb:Binds X.K fd ps [])(hx:zc8 CX X E)
  (ha:PA X (e::es) t) (hdb:(x==("__debug__" :Str))=false:=by decide) (he:starEach (e::es) X.env=(false,eval e X.env)::starEach es X.env:=by rfl) (hpl:(backTo pos (starEach es X.env)).any (·.1)=false:=by rfl):
  PE X (.Call (.Name x p) (e::es) [] pos) (zil sp E t):=by
 intro pins s σ H Q I h
 refine wpAny_Call_Name_kw (zcl I hg hm ?_ hdb)
 refine PySem.W.callWith_K (h₀:=X.base) I.ok.mod.kin hk (thn (ha pos pins s σ H _ I h) fun us s1 ⟨vs,H1,I1,r,q⟩=>⟨I1.kIn,?_⟩) he hpl
 exact zkp F hr hb hx I1 r q
end
theorem Fun.okX {P:Program}{w:World}{K:PySem.W.Frag}{mg:Str→Option Value}{base:Heap}{x qual:Str}{st:Stmt}{f:Addr}{fd:FuncData}{N ps:List Str}{k:Nat}{sp:Sp}(F:Fun K x qual st f fd)(S:zv N ps (zg st))(len:∀vs H Q E,sp vs H Q E→vs.length=ps.length)
  (hbody:∀(cdv:Value) (A:Around) (outer:List Env) (s:Shared) (H:Hp) (vs:List V) (Q:VK) (E:XK),Room k (A.deeper (envOfC qual (zg st) s.heap.objs.size f cdv))→sp vs H Q E→
   ∃t,PSs (cxOf (CX1 P w) P w K mg base N qual (zg st) f cdv A outer s H E) (zY st) t∧t {nx:=fun _ H'=>Q .non H',rt:=Q} (start N vs) H):FnOk P w K mg base (CX1 P w) (k+1) f fd ps sp:=by
 obtain ⟨oc,od,kV,doc,pm,an,cdv,ct,osl,rfl,lk,hcd⟩:=F.ex
 exact zkW lk hcd S len fun A outer s H vs Q E hr hsp=>hbody cdv A outer s H vs Q E hr hsp
abbrev Cx.tried (X:Cx)(xe:Value→Shared→Prop)(pn:List (Addr ×Obj)):Cx:={X with xe:=xe,pn:=pn}
abbrev Cx.suite (X:Cx)(e:Addr):Cx:={X with A:=X.A.mark (some (.ref e)),calm:=false,xe:=fun _ _=>False}
section
variable {X:Cx}{pins pins':List (Addr ×Obj)}{σ:St}{H:Hp}{s:Shared}{xe:Value→Shared→Prop}
theorem Inv.tried (I:Inv X pins σ H s)(xe:Value→Shared→Prop):Inv (X.tried xe (X.pn++pins)) [] σ H s:=
 ⟨⟨I.ok.mod,I.ok.kind,I.ok.glob,I.ok.blt,I.ok.above,I.ok.inj,I.ok.has,I.ok.cab,I.ok.hd,I.ok.frames,I.ok.stk,I.ok.exf,I.ok.bs,I.ok.bsz,I.ok.noex,I.ok.exfs,I.ok.funs,I.ok.frf⟩,
  I.os,I.bare,I.base,I.loc,I.cell,I.free,I.freeC,fun p hp=>I.pin p (by simpa using hp),I.hok,I.len⟩
theorem Inv.untried (I:Inv (X.tried xe (X.pn++pins)) pins' σ H s):Inv X pins σ H s:=
 ⟨⟨I.ok.mod,I.ok.kind,I.ok.glob,I.ok.blt,I.ok.above,I.ok.inj,I.ok.has,I.ok.cab,I.ok.hd,I.ok.frames,I.ok.stk,I.ok.exf,I.ok.bs,I.ok.bsz,I.ok.noex,I.ok.exfs,I.ok.funs,I.ok.frf⟩,
  I.os,I.bare,I.base,I.loc,I.cell,I.free,I.freeC,fun p hp=>I.pin p (List.mem_append_left _ hp),I.hok,I.len⟩
theorem Inv.suite (I:Inv X pins σ H s)(e:Addr):Inv (X.suite e) pins σ H s:=
 ⟨⟨I.ok.mod,I.ok.kind,I.ok.glob,I.ok.blt,I.ok.above,I.ok.inj,I.ok.has,I.ok.cab,(fun z=>nomatch z),I.ok.frames,I.ok.stk,I.ok.exf,I.ok.bs,I.ok.bsz,I.ok.noex,I.ok.exfs,I.ok.funs,I.ok.frf⟩,
  I.os,I.bare,I.base,I.loc,I.cell,I.free,I.freeC,I.pin,I.hok,I.len⟩
theorem Inv.unsuite {e:Addr}(ok:X.Ok)(I:Inv (X.suite e) pins σ H s):Inv X pins σ H s:=
 ⟨ok,I.os,I.bare,I.base,I.loc,I.cell,I.free,I.freeC,I.pin,I.hok,I.len⟩
theorem zcQ {M:Model}{A:Around}{E:Value→Shared→Prop}{i:Nat}{n:Str}{pos:Pos}{Q:Unit→Shared→Prop}(I:Inv X pins σ H s)(hN:X.N.Nodup)(hi:X.N[i]? =some n)(hk:X.env.scope.names.lookup n=some .local)
  (h:∀s',Inv X pins (σ.set i none) H s'→Q () s'):wpAny M A (do bindName X.env n .none;unbindBehindTheSuite X.env n pos) Q E s:=by
 obtain ⟨m,hn,hl⟩:=id I.loc
 have cl:(X.env.scope.kind==.class || (X.env.scope.kind==.module && X.env.locals !=X.env.globals))=false:=by rw [I.ok.kind];rfl
 refine wpAny_nameGoes_keeps hk hn cl fun h' v hn' sb=>?_
 obtain ⟨oL,_,_,gL,_⟩:=id hn
 have ol:∀b ob,X.s₀.heap.get? b=some ob→b≠X.env.locals:=fun b ob g=>Nat.ne_of_lt (Nat.lt_of_lt_of_le (Heap.lt_size g) I.ok.above)
 refine h _ ⟨I.ok,I.os,I.bare,⟨fun b ob g z hb hx=>(sb.2 b (ol b ob g)).trans (I.base.keep b ob g z hb hx),fun b ob g z hb hx=>?_,I.base.free,fun b ob g hx=>?_,I.base.tups,I.base.frzs,I.base.tbls⟩,
  ⟨_,hn',fun j y v' e1 e2 e3=>?_⟩,fun y c e=>?_,I.free,I.freeC,fun p hp=>?_,fun b w g=>?_,by simpa using I.len⟩
 ·obtain ⟨sl,g1⟩:=I.base.slot b ob g z hb hx
  exact ⟨sl,(sb.2 b (ol b ob g)).trans g1⟩
 ·obtain ⟨o',g1⟩:=I.base.there b ob g hx
  exact ⟨o',(sb.2 b (ol b ob g)).trans g1⟩
 ·have hj:j≠i:=fun z=>by
   subst z
   have:j < σ.length:=by rw [I.len];exact (List.getElem?_eq_some_iff.mp hi).1
   rw [List.getElem?_set_self this] at e2
   cases e2
  rw [List.getElem?_set_ne (Ne.symm hj)] at e2
  obtain ⟨u',r',q⟩:=hl j y v' e1 e2 e3
  refine ⟨u',r',?_⟩
  rcases q with ⟨k,e⟩ | ⟨k,c,e,z⟩
  ·refine .inl ⟨k,?_⟩
   have:y≠n:=fun z=>hj (zep hN e1 (z ▸ hi))
   show (if y=n then v else m y)=some u'
   rw [if_neg this];exact e
  ·exact .inr ⟨k,c,e,z.sameBut sb (I.cne y c e)⟩
 ·obtain ⟨w',z⟩:=I.cell y c e
  exact ⟨w',z.sameBut sb (I.cne y c e)⟩
 ·obtain ⟨g,z,ne,nf,d⟩:=I.pin p hp
  exact ⟨(sb.2 p.1 ne).trans g,z,ne,nf,d⟩
 ·refine (I.hok b w g).stay (fun c v2 hc q=>(sb.2 c fun z=>?_).trans q) (fun _ q=>q) fun _ _ q=>q
  subst z
  rcases hc with y | y
  ·rw [←y,I.free] at g;cases g
  ·rw [I.free] at y;cases y
end
def Ends.less (D:Ends)(i:Nat):Ends:={nx:=fun σ H=>D.nx (σ.set i none) H,rt:=D.rt,bk:=fun σ H=>D.bk (σ.set i none) H,ct:=fun σ H=>D.ct (σ.set i none) H}
def zg4 (K:PySem.W.Frag)(cv:Value)(i:Nat)(ts:TS)(D:Ends):St→XK:=fun σ cls od H'=>∃C,cls=.ref C∧PySem.W.exmOne K (.ref C) cv=some true∧
 ∀e,H' e=none→ts (D.less i) (σ.set i (some (.ref e))) (upd H' e (exO e C od false))
def zld (K:PySem.W.Frag)(cv:Value)(ts:TS)(D:Ends):St→XK:=fun σ cls od H'=>∃C,cls=.ref C∧PySem.W.exmOne K (.ref C) cv=some true∧
 ∀e,H' e=none→ts D σ (upd H' e (exO e C od false))
def zlC (K:PySem.W.Frag)(cv:Value)(i:Nat)(tb:(St→XK)→TS)(ts:TS):TS:=fun D σ H=>tb (zg4 K cv i ts D) D σ H
def zni (K:PySem.W.Frag)(cv:Value)(tb:(St→XK)→TS)(ts:TS):TS:=fun D σ H=>tb (zld K cv ts D) D σ H
theorem _root_.Px.Chg2.mono {fs:List Addr}{own own':Addr→Prop}{h h':Heap}(c:Chg2 fs own h h')(k:∀b,own b→own' b):Chg2 fs own' h h':=
 ⟨c.size,fun b o q a n=>c.keep b o q a fun z=>n (k b z),fun b o q a n=>c.slot b o q a fun z=>n (k b z)⟩
section
variable {X:Cx}{x n:Str}{i:Nat}{cv:Value}{body suite:List Stmt}{b₀:Stmt}{np hpos pos:Pos}{tb:(St→XK)→TS}{ts:TS}
theorem Inv.caught {pins:List (Addr ×Obj)}{σ:St}{H H':Hp}{s s2:Shared}{h4:Heap}{ea C T T':Addr}{od:Option Addr}(J0:Inv X pins σ H s)(os:s2.os=s.os)(bare:AllBare s2.gens)(un:Un (frs X.stack) [] H H' s.heap s2.heap)(hok:HOk X.prog X.w H' s2.heap)
  (old:s.heap.get? ea=none∨H ea≠none) (nT:s.heap.get? T=none) (u1:H' ea=none) (u2:H' T=none) (z:s2.heap.objs.size≤T') (c:Chg2 (frs X.stack) (fun b=>b=ea∨b=T∨b=T') s2.heap h4) (tb:Tb h4 ea (.ref C) od T' .none):
  Inv X pins σ (upd H' ea (exO ea C od false)) {s2 with heap:=h4}:=by
 obtain ⟨oe,vs,oT,tz,ge,e1,e2,e3,_⟩:=tb
 have ge':h4.get? ea=some ⟨.ref C,od,.fields vs,oe.slots⟩:=by
  obtain ⟨c0,d0,dt,sl⟩:=oe
  dsimp only at e1 e2 e3
  subst e1;subst e2;subst e3
  exact ge
 have nT2:s2.heap.get? T'=none:=Heap.get?_none_of_le z
 have fr2:∀b∈frs X.stack,H' b=none:=fun b hb=>by
  have J:=J0.call' os un hok bare (fun b z=>nomatch z)
  exact J.stkFree b hb
 have u3:H' T'=none:=hok.fresh z
 have U:Un (frs X.stack) [] H H' s.heap h4:=un.chg c (fun b ob _ y=>y) fun b y=>by
  rcases y with y | y | y
  ·subst y
   rcases old with y | y
   ·exact .inl y
   ·exact .inr ⟨y,⟨_,ge⟩⟩
  ·subst y;exact .inl nT
  ·subst y;exact .inl (zbW un (by intro z;cases z) nT2)
 have O:HOk X.prog X.w H' h4:=hok.chg c (fun b y=>by
  rcases y with y | y | y
  ·rw [y];exact u1
  ·rw [y];exact u2
  ·rw [y];exact u3) fr2
 refine J0.call' (s':={s2 with heap:=h4}) os (U.track u1 fun ob q=>.inr ?_) (O.track u1 (zfc ge' fun z=>by cases z)) bare (fun b z=>nomatch z)
 rcases old with y | y
 ·rw [y] at q;cases q
 ·exact y
theorem zfS (hst:X.stack=X.env::X.outer)(hfm:X.env.frame=some X.env.locals)(hN:X.N.Nodup)(hi:X.N[i]? =some n)(hlo:X.env.scope.names.lookup n=some .local)(hg:Gl X x)(hm:X.mg x=some cv)
  (hb:∀xe pn E,zc8 (CX1 X.prog X.w) (X.tried xe pn) E→PSs (X.tried xe pn) body (tb E)) (hs:∀e,PSs (X.suite e) (b₀::suite) ts) (hdb:(x==("__debug__" :Str))=false:=by decide):
  PS X (.Try body [.ExceptHandler (some (.Name x np)) (some n) (b₀::suite) hpos] [] [] pos) (zlC X.K cv i tb ts):=by
 intro pins s σ H D I h
 have key:zc8 (CX1 X.prog X.w) (X.tried (fun e s₁=>wpAny (model X.prog X.w) X.A (noteFrame e X.env) (fun _ s₂=>wpAny (model X.prog X.w) X.A (setFlight e none) (fun _ s₃=>
   wpAny (model X.prog X.w) X.A (handleBy e X.env [.ExceptHandler (some (.Name x np)) (some n) (b₀::suite) hpos]) (SP X pins D) X.xe s₃) X.xe s₂) X.xe s₁) (X.pn++pins)) (zg4 X.K cv i ts D):=by
  intro pins' σ' H1 s1 e s2 I1 hc
  obtain ⟨ea,cls,od,H',T,rfl,os,bare,un,hok,tb',old,nT,u1,u2,C,rfl,em,q⟩:=hc
  have J0:Inv X pins σ' H1 s1:=I1.untried
  have J:=J0.call' os un hok bare (fun b z=>nomatch z)
  show wpAny _ _ (noteFrame (.ref ea) X.env) _ _ s2
  refine zmx (base:=X.base) (by rw [←hst];exact J.ok.frames) (by rw [←hst];exact J.stack) hfm tb' fun h3 T' z t3 c3=>?_
  rw [show (X.env::X.outer).filterMap (·.frame)=frs X.stack from by rw [hst];rfl] at c3
  have c3':Chg2 (frs X.stack) (fun b=>b=ea∨b=T∨b=T') s2.heap h3:=c3.mono fun b y=>y.elim .inl fun y=>.inr (.inl y)
  have J3:=J0.caught os bare un hok old nT u1 u2 z c3' t3
  have LT:PySem.W.Looks (model X.prog X.w) h3 (typeOf (.ref ea)) (.ref C):=by
   obtain ⟨vs,sl,ge,_⟩:=zcg J3.hok zf
   exact (PySem.W.Looks.ld ge).andThen .now
  refine wpAny_handleBy_cons (codeAny_handlers_test (zcl (X:=X.suite ea) (J3.suite ea) hg hm ?_ hdb)) (by intro y;cases y)
  refine (PySem.W.exm_one J3.kIn LT em).here (s:={s2 with heap:=h3}) ?_
  refine codeAny_handlers_suite_as ?_
  refine zft (s:={s2 with heap:=h3}) (fs:=frs X.stack) t3 fun h4 t4 c4 k4=>?_
  have J4:=J0.caught os bare un hok old nT u1 u2 z (c3'.trans (c4.two (own:=fun b=>b=ea∨b=T∨b=T') (.inl rfl) (.inl (.inr (.inr rfl))))) t4
  refine zcy (X:=X) J4 hN hi (.inl hlo) (show RelV (.ref ea) (Value.ref ea) from rfl) (fun s5 J5=>?_) (.inr hlo)
  refine wpAny_mono (hs ea pins s5 _ _ (D.less i) (J5.suite ea) (q ea u1)) (fun f s6 q6=>?_) fun _ _ y=>y.elim
  show wpAny _ _ _ _ _ _
  cases f with
  | next=>
   obtain ⟨σ6,H6,J6,y⟩:=q6
   exact zcQ (J6.unsuite J0.ok) hN hi hlo fun s7 J7=>⟨_,_,J7,y⟩
  | brk=>
   obtain ⟨σ6,H6,J6,y⟩:=q6
   exact zcQ (J6.unsuite J0.ok) hN hi hlo fun s7 J7=>⟨_,_,J7,y⟩
  | cont=>
   obtain ⟨σ6,H6,J6,y⟩:=q6
   exact zcQ (J6.unsuite J0.ok) hN hi hlo fun s7 J7=>⟨_,_,J7,y⟩
  | ret u=>
   obtain ⟨v6,σ6,H6,J6,rv,y⟩:=q6
   exact zcQ (J6.unsuite J0.ok) hN hi hlo fun s7 J7=>⟨_,_,_,J7,rv,y⟩
 refine wpAny_Try_except (wpAny_mono (hb _ (X.pn++pins) _ key [] s σ H D (I.tried _) h) (fun f s₁ q=>?_) fun _ _ y=>y)
 cases f with
 | next=>obtain ⟨σ',H',I',y⟩:=q;exact wpAny_execs_nil ⟨σ',H',I'.untried,y⟩
 | brk=>obtain ⟨σ',H',I',y⟩:=q;exact ⟨σ',H',I'.untried,y⟩
 | cont=>obtain ⟨σ',H',I',y⟩:=q;exact ⟨σ',H',I'.untried,y⟩
 | ret u=>obtain ⟨v,σ',H',I',rv,y⟩:=q;exact ⟨v,σ',H',I'.untried,rv,y⟩
end
end L2
namespace L2
open PySem PySem.Spec PyProof.Rows
def cxC (X:Cx)(N:List Str)(scope:Scope)(cl:List (Str ×Addr))(s₀:Shared)(H₀:Hp)(ex:List Addr):Cx:=
 {X with N:=N,s₀:=s₀,H₀:=H₀,env:=compEnvC scope cl s₀.heap.objs.size X.env,outer:=X.stack,ex:=ex,fn:=fun _=>false,pn:=[],xe:=fun _ _=>False}
structure zX (X:Cx)(x:Str)(ys:List Str)(js:List Nat)(scope:Scope)(cl:List (Str ×Addr)):Prop where
 clos:closureFor scope X.env=pure cl
 kind:scope.kind=.function
 nocell:∀y∈scope.names,y.2≠ .cell
 names:∀y∈scope.names,y.2=.local→scope.names.lookup y.1=some .local
 tgt:scope.names.lookup x=some .local
 nd:(x::ys).Nodup
 sub:∀p∈cl,X.env.cells.lookup p.1=some p.2
 has:∀p∈(relabel scope X.env).names,p.2=.cell∨p.2=.free→p.1∈cl.map (·.1)
 fr:∀(i:Nat) (y:Str),ys[i]? =some y→∃j,js[i]? =some j∧X.N[j]? =some y∧(X.env.kindOf y=some .cell∨X.env.kindOf y=some .free)∧((relabel scope X.env).names.lookup y=some .cell∨(relabel scope X.env).names.lookup y=some .free)
 len:js.length=ys.length
theorem zbE {cl:List (Str ×Addr)}:∀{y:Str},y∈cl.map (·.1)→∃c,cl.lookup y=some c:=by
 induction cl with
 | nil=>intro y h;simp at h
 | cons p r ih=>
  intro y h
  rw [List.lookup_cons]
  cases e:y==p.1 with
  | true=>exact ⟨p.2,rfl⟩
  | false=>
   rw [List.map_cons,List.mem_cons] at h
   rcases h with h | h
   ·rw [h] at e;simp at e
   ·exact ih h
def PTs (X:Cx)(ifs:List Expr)(t:TT):Prop:=
 ∀(pins:List (Addr ×Obj)) (s:Shared) (σ:St) (H:Hp) (Q:Bool→Hp→Prop),Inv X pins σ H s→t σ H Q→
  wpAny (model X.prog X.w) X.A (forIn ifs true fun c r=>if r=true then do let ok←isTrue c X.env (eval c X.env);pure (ForInStep.yield ok) else pure (ForInStep.yield r)) (TP X pins σ Q) X.xe s
def zhc:TT:=fun _ H Q=>Q true H
theorem zcL {X:Cx}:PTs X [] zhc:=fun _ _ _ H _ I h=>wpAny_tests_nil ⟨H,I,h⟩
def frees (σ:St)(js:List Nat):St:=js.map fun j=>(σ[j]?).getD none
def zjd (J:It)(p:Addr)(σ:St)(js:List Nat)(tt:TT)(te:TE)(H1:Hp)(Q:VK):Prop:=
 ∃W:Nat→Nat→List V→Hp→Prop,(∃m,W 0 m [] (upd H1 p (.lst [])))∧∀i m acc H,W i m acc H→
  (J.stop i H∧Q (.ref p) H)∨(J.go i H∧∀x H',J.yld i H x H'→tt (some x::frees σ js) H' fun ok H2=>
   if ok=true then te (some x::frees σ js) H2 fun y H3=>H3 p=some (.lst acc)∧acc.length < sizeLine∧∃m',m' < m∧W (i+1) m' (acc++ [y]) (upd H3 p (.lst (acc++ [y])))
   else∃m',m' < m∧W (i+1) m' acc H2)
def zkV (wi:TI)(js:List Nat)(tt:TT)(te:TE):TE:=fun σ H Q=>wi σ H fun J H1=>∀p,H1 p=none→zjd J p σ js tt te H1 Q
section
variable {X:Cx}{x:Str}{ys:List Str}{js:List Nat}{scope:Scope}{cl:List (Str ×Addr)}{pins:List (Addr ×Obj)}{σ:St}{H:Hp}{s:Shared}
theorem zX.cells (S:zX X x ys js scope cl){y:Str}{c:Addr}(h:cl.lookup y=some c):X.env.cells.lookup y=some c:=S.sub (y,c) (PySem.mem_of_lookup h)
theorem zkK (S:zX X x ys js scope cl)(I:Inv X pins σ H s){fp:List Addr}(f:∀b∈fp,FpOk X pins H b)(fo:∀b∈fp,b < s.heap.objs.size){h1:Heap}{m:Str→Option Value}{t1:Nat}(hn:h1.Ns s.heap.objs.size m)
  (k:∀b o,s.heap.get? b=some o→h1.get? b=some o):
  Inv (cxC X (x::ys) scope cl s H fp) (X.pn++pins) (none::frees σ js) H {s with heap:=h1,toks:=t1}:=by
 have nfs:∀b∈fp,b∉frs X.stack:=fun b hb z=>(List.mem_cons.mp (I.stkSub b z)).elim (f b hb).2.1 (f b hb).2.2.1
 have kept:∀y c,cl.lookup y=some c→∀v,s.heap.IsCell c v→h1.IsCell c v:=fun y c _ v ⟨o,ho,hd⟩=>⟨o,k c o ho,hd⟩
 refine ⟨⟨I.ok.mod,S.kind,I.ok.glob,I.ok.blt,Nat.le_refl _,fun y z c e1 e2=>I.ok.inj y z c (S.cells e1) (S.cells e2),fun y hy=>?_,fun y c e _=>absurd e Bool.false_ne_true,I.ok.hd,I.ok.frames,.inl rfl,fun b hb=>⟨?_,fun y c e=>(f b hb).2.2.2.2.1 y c (S.cells e)⟩,
   I.bs,Nat.le_trans I.ok.bsz I.sz,fun b o e hb=>?_,nfs,I.stack,I.stkFree⟩,
  I.os.trans ?_,I.bare,Un.kept k,⟨m,hn,fun i y v e1 e2 e3=>?_⟩,fun y c e=>?_,I.hok.fresh (Nat.le_refl _),fun y c e=>I.freeC y c (S.cells e),fun p hp=>?_,I.hok.kept k,?_⟩
 ·rcases hy with hy | hy
  ·exact zbE (S.has _ (PySem.mem_of_lookup hy) (.inl rfl))
  ·exact zbE (S.has _ (PySem.mem_of_lookup hy) (.inr rfl))
 ·exact Nat.ne_of_lt (fo b hb)
 ·rcases (f b hb).2.2.2.1 with z | z
  ·exact I.ok.noex b o e z
  ·exact absurd (Nat.lt_of_lt_of_le (Heap.lt_size e) (Nat.le_trans I.ok.bsz z)) (Nat.lt_irrefl _)
 ·exact I.os.symm
 ·cases i with
  | zero=>cases e2
  | succ i=>
   obtain ⟨j,ej,eN,ek,ek'⟩:=S.fr i y e1
   have es:σ[j]? =some (some v):=by
    have q:(frees σ js)[i]? =some (some v):=e2
    unfold frees at q
    rw [List.getElem?_map,ej] at q
    have q':(σ[j]?).getD none=some v:=Option.some.inj q
    cases e:σ[j]? with
    | none=>rw [e] at q';cases q'
    | some o=>rw [e] at q';cases q';rfl
   obtain ⟨m0,_,hl⟩:=I.loc
   obtain ⟨u,r,l⟩:=hl j y v eN es (.inr ek)
   rcases l with ⟨l,_⟩ | ⟨_,c,ec,hc⟩
   ·rcases ek with ek | ek <;> · rw [ek] at l;cases l
   ·have hk:y∈cl.map (·.1):=by
     rcases ek' with q | q
     ·exact S.has _ (PySem.mem_of_lookup q) (.inl rfl)
     ·exact S.has _ (PySem.mem_of_lookup q) (.inr rfl)
    obtain ⟨c',ec'⟩:=zbE hk
    have e:=S.cells ec'
    rw [ec] at e
    cases e
    exact ⟨u,r,.inr ⟨ek',c,ec',kept y c ec' _ hc⟩⟩
 ·obtain ⟨v,q⟩:=I.cell y c (S.cells e)
  exact ⟨v,kept y c e v q⟩
 ·have hp':p∈X.pn++pins:=(List.mem_append.mp hp).elim (fun z=>absurd (show p∈([]:List (Addr ×Obj)) from z) (by simp)) id
  obtain ⟨a,b,c,d,e⟩:=I.pin p hp'
  exact ⟨k _ _ a,b,Nat.ne_of_lt (Heap.lt_size a),fun z=>(List.mem_cons.mp (I.stkSub _ z)).elim c d,e⟩
 ·show _=(x::ys).length
  rw [List.length_cons,List.length_cons]
  unfold frees
  rw [List.length_map,S.len]
theorem zjA {H1:Hp}{s1:Shared}{σ':St}{pins':List (Addr ×Obj)}{s0:Shared}{H0:Hp}(I:Inv X pins σ H0 s0){fp:List Addr}(f:∀b∈fp,FpOk X pins H0 b)(U0:Un (frs X.stack) fp H0 H s0.heap s.heap)(ho:s.os=s0.os)
  (J:Inv (cxC X (x::ys) scope cl s H fp) pins' σ' H1 s1):Inv X pins σ H1 s1:=by
 have U1:Un (frs X.stack) fp H H1 s.heap s1.heap:=J.base
 exact I.call' (J.os.trans ho) (U0.trans U1) J.hok J.bare fun b hb=>⟨(f b hb).2.2.2.1,(f b hb).2.1,(f b hb).2.2.2.2.1,(f b hb).2.2.2.2.2⟩
variable {iter elt:Expr}{ifs:List Expr}{px pos:Pos}{wi:TI}{tt:TT}{te:TE}
theorem zfG (S:zX X x ys js scope cl)(hc:X.calm=true)(ht:∀s₀ H₀ ex,PTs (cxC X (x::ys) scope cl s₀ H₀ ex) ifs tt)(he:∀s₀ H₀ ex,PE (cxC X (x::ys) scope cl s₀ H₀ ex) elt te)
  {s2:Shared} {H2:Hp} {it:Addr} {fp:List Addr} {tn:Nat→Heap→Prop} {J:It} (I2:Inv X pins σ H2 s2) (T:Turn X.prog X.w X.K (.Name x px) J fp it tn) (st2:tn 0 s2.heap) (f2:∀b∈fp,FpOk X pins H2 b)
  {Q:VK} (q:∀p,H2 p=none→zjd J p σ js tt te H2 Q)
  {R:Value→Addr→Result→Shared→Prop}
  (hR:∀(p:Addr) (C:Addr) (H':Hp) (s':Shared) (m:Str→Option Value),s2.heap.objs.size≤C→s'.heap.Ns C m→H' C=none→Inv X pins σ H' s'→Q (.ref p) H'→R (.ref p) C (.ok .next) s'):
  wpAny (model X.prog X.w) X.A (newList []) (fun acc s₃=>wpAny (model X.prog X.w) X.A (newFunctionEnv scope X.env.globals cl [] X.env.qual none .none (some X.env)) (fun cenv s₄=>
   codeAny (model X.prog X.w) X.A (.compStart (.ListComp elt [⟨.Name x px,iter,ifs,0⟩] scope pos) 0 (.ref it) acc {cenv with scope:=relabel scope X.env}) (R acc cenv.locals) s₄) X.xe s₃) X.xe s2:=by
 refine wpAny_newObj_type (wpAny_newFunctionEnv S.nocell (by intro y hy;simp at hy) (fun h₁ hns₁ hsb₁=>?_) S.kind)
 have fr2:H2 s2.heap.objs.size=none:=I2.hok.fresh (Nat.le_refl _)
 obtain ⟨W,⟨m0,w0⟩,turn⟩:=q _ fr2
 have I3:Inv X pins σ (upd H2 s2.heap.objs.size (.lst [])) {s2 with heap:=s2.heap.push {cls:=.type "list",dict:=none,data:=.seq ([]:List Value).toArray}}:=
  I2.laid (t':=s2.toks) (fun b u e=>Heap.get?_push_of_some _ e) (Nat.le_refl _) ⟨Nat.zero_le _,[],0,.nil,Heap.get?_push_size _ rfl⟩
 have U0:Un (frs X.stack) fp H2 (upd H2 s2.heap.objs.size (.lst [])) s2.heap (s2.heap.push {cls:=.type "list",dict:=none,data:=.seq ([]:List Value).toArray}):=
  Un.laid (fun b u e=>Heap.get?_push_of_some _ e) (Nat.le_refl _) fr2
 have fo:∀b∈fp,b < s2.heap.objs.size:=fun b hb=>by
  obtain ⟨o,e,_⟩:=T.obj 0 _ st2 b hb
  exact Heap.lt_size e
 have f3:∀b∈fp,FpOk X pins (upd H2 s2.heap.objs.size (.lst [])) b:=fun b hb=>⟨by rw [zq (Nat.ne_of_lt (fo b hb))];exact (f2 b hb).1,(f2 b hb).2⟩
 have hold:∀b o,(s2.heap.push {cls:=.type "list",dict:=none,data:=.seq ([]:List Value).toArray}).get? b=some o→h₁.get? b=some o:=fun b o e=>
  hsb₁.extBut b o (Nat.ne_of_lt (Heap.lt_size e)) (Heap.get?_push_of_some _ e)
 have fo3:∀b∈fp,b < (s2.heap.push {cls:=.type "list",dict:=none,data:=.seq ([]:List Value).toArray}).objs.size:=fun b hb=>by rw [Heap.size_push];exact Nat.lt_succ_of_lt (fo b hb)
 have I4:=zkK (t1:=s2.toks+([]:List (Str ×Value)).length) S I3 f3 fo3 hns₁ hold
 have st4:tn 0 h₁:=T.keep _ _ _ st2 fun b _ o e=>hold b o (Heap.get?_push_of_some _ e)
 have stat:∀{H':Hp},(∀b∈fp,H' b=none)→∀b∈fp,FpOk (cxC X (x::ys) scope cl {s2 with heap:=s2.heap.push {cls:=.type "list",dict:=none,data:=.seq ([]:List Value).toArray}} (upd H2 s2.heap.objs.size (.lst [])) fp) (X.pn++pins) H' b:=fun hn b hb=>
  ⟨hn b hb,Nat.ne_of_lt (fo3 b hb),I4.ok.exfs b hb,.inl hb,fun y c e=>(f2 b hb).2.2.2.2.1 y c (S.cells e),fun p hp=>(f2 b hb).2.2.2.2.2 p ((List.mem_append.mp hp).elim (fun z=>absurd (show p∈([]:List (Addr ×Obj)) from z) (by simp)) id)⟩
 have loop:codeAny (model X.prog X.w) X.A (.compLoop (.ListComp elt [⟨.Name x px,iter,ifs,0⟩] scope pos) 0 (.ref it) (.ref s2.heap.objs.size) (compEnvC scope cl (s2.heap.push {cls:=.type "list",dict:=none,data:=.seq ([]:List Value).toArray}).objs.size X.env))
   (R (.ref s2.heap.objs.size) (s2.heap.push {cls:=.type "list",dict:=none,data:=.seq ([]:List Value).toArray}).objs.size) {s2 with heap:=h₁,toks:=s2.toks+([]:List (Str ×Value)).length}:=by
  refine codeAny_loop rfl (fun n s'=>∃i acc v0 H',Inv (cxC X (x::ys) scope cl {s2 with heap:=s2.heap.push {cls:=.type "list",dict:=none,data:=.seq ([]:List Value).toArray}} (upd H2 s2.heap.objs.size (.lst [])) fp) (X.pn++pins) (v0::frees σ js) H' s'∧tn i s'.heap∧(∀b∈fp,H' b=none)∧W i n acc H')
   (fun n s5 hI=>?_) m0 ⟨0,[],none,_,I4,st4,fun b hb=>(f3 b hb).1,w0⟩
  show wpAny _ X.A ((compTurn (.ListComp elt [⟨.Name x px,iter,ifs,0⟩] scope pos) 0 (.ref it) (.ref s2.heap.objs.size) (compEnvC scope cl (s2.heap.push {cls:=.type "list",dict:=none,data:=.seq ([]:List Value).toArray}).objs.size X.env)).onRaise (fun x=>do noteFrame x (compEnvC scope cl (s2.heap.push {cls:=.type "list",dict:=none,data:=.seq ([]:List Value).toArray}).objs.size X.env);theTreesLotGoes x)) _ _ s5
  refine wpAny_noted ?_
  rw [compTurn_list]
  obtain ⟨i,acc,v0,H5,I5,st5,fr5,w5⟩:=hI
  refine wpAny_bind (wpAny_standAt (wpAny_bind ?_))
  rcases turn i n acc H5 w5 with ⟨stop,qn⟩ | ⟨go,step⟩
  ·refine wpAny_mono (T.done (cxC X (x::ys) scope cl {s2 with heap:=s2.heap.push {cls:=.type "list",dict:=none,data:=.seq ([]:List Value).toArray}} (upd H2 s2.heap.objs.size (.lst [])) fp) rfl rfl rfl hc i _ s5 _ H5 _ I5 (stat fr5) st5 stop) (fun r s6 ⟨hr,I6⟩=>?_) fun _ _ e=>e
   subst hr
   obtain ⟨m,hn,_⟩:=I6.loc
   exact wpAny_pure (hR _ _ H5 s6 m (by rw [Heap.size_push];exact Nat.le_succ _) hn I6.free (zjA I2 f2 U0 (by rfl) I6) qn)
  ·refine wpAny_mono (T.item (cxC X (x::ys) scope cl {s2 with heap:=s2.heap.push {cls:=.type "list",dict:=none,data:=.seq ([]:List Value).toArray}} (upd H2 s2.heap.objs.size (.lst [])) fp) rfl rfl rfl hc i _ s5 _ H5 _ I5 (stat fr5) st5 go) (fun r s6 ⟨u,hr,h6⟩=>?_) fun _ _ e=>e
   subst hr
   refine wpAny_bind (wpAny_mono h6 (fun _ s7 ⟨v,H7,I7,r7,y7,st7,fr7⟩=>?_) fun _ _ e=>e)
   have I7':=I7.pinned (stat fr7) (T.obj _ _ st7)
   have G:PG (cxC X (x::ys) scope cl {s2 with heap:=s2.heap.push {cls:=.type "list",dict:=none,data:=.seq ([]:List Value).toArray}} (upd H2 s2.heap.objs.size (.lst [])) fp) (.Name x px) (zaZ 0):=
    z7 S.nd rfl (.inl (lookup_relabel_local S.tgt)) (.inr (lookup_relabel_local S.tgt))
   refine wpAny_bind (wpAny_mono (G _ s7 _ H7 v u (fun σ8 H8=>σ8=some v::frees σ js∧H8=H7) I7' r7 ⟨rfl,rfl⟩) (fun _ s8 ⟨σ8,H8,I8,e8,e8'⟩=>?_) fun _ _ e=>e.elim)
   subst e8 e8'
   refine wpAny_bind (wpAny_mono (ht _ _ _ _ s8 _ _ _ I8 (step v _ y7)) (fun ok s9 ⟨H9,I9,q9⟩=>?_) fun _ _ e=>e.elim)
   have again:∀{acc':List V} {H10:Hp} {s10:Shared},Inv (cxC X (x::ys) scope cl {s2 with heap:=s2.heap.push {cls:=.type "list",dict:=none,data:=.seq ([]:List Value).toArray}} (upd H2 s2.heap.objs.size (.lst [])) fp) (X.pn++pins++zej fp s7.heap) (some v::frees σ js) H10 s10→
     (∃m',m' < n∧W (i+1) m' acc' H10)→∃m,m < n∧∃i acc v0 H',Inv (cxC X (x::ys) scope cl {s2 with heap:=s2.heap.push {cls:=.type "list",dict:=none,data:=.seq ([]:List Value).toArray}} (upd H2 s2.heap.objs.size (.lst [])) fp) (X.pn++pins) (v0::frees σ js) H' s10∧tn i s10.heap∧(∀b∈fp,H' b=none)∧W i m acc H':=fun {acc' H10 s10} I10 ⟨m',hm,w10⟩=>by
    refine ⟨m',hm,i+1,acc',some v,H10,I10.unpinned,T.keep _ _ _ st7 fun b hb o e=>(I10.pin (b,o) (List.mem_append_right _ (List.mem_append_right _ (zck hb e)))).1,fun b hb=>?_,w10⟩
    obtain ⟨o,e,d⟩:=T.obj _ _ st7 b hb
    exact (I10.pin (b,o) (List.mem_append_right _ (List.mem_append_right _ (zck hb e)))).2.1
   cases ok with
   | false=>
    rw [if_neg Bool.false_ne_true] at q9
    exact wpAny_pure ⟨rfl,again I9 q9⟩
   | true=>
    rw [if_pos rfl] at q9
    refine wpAny_bind (wpAny_bind (wpAny_mono (he _ _ _ _ s9 _ _ _ I9 q9) (fun y s10 ⟨z,H10,I10,r10,e10,l10,w10⟩=>?_) fun _ _ e=>e.elim))
    refine wpAny_bind (wpAny_mono (zar (X:=cxC X (x::ys) scope cl {s2 with heap:=s2.heap.push {cls:=.type "list",dict:=none,data:=.seq ([]:List Value).toArray}} (upd H2 s2.heap.objs.size (.lst [])) fp) _ s10 _ H10 (.ref s2.heap.objs.size) [z] (.ref s2.heap.objs.size) [y] (fun _ H'=>H'=upd H10 s2.heap.objs.size (.lst (acc++ [z]))) I10 rfl (.cons r10 .nil) ⟨_,acc,z,rfl,rfl,e10,l10,rfl⟩)
     (fun _ s11 ⟨_,H11,I11,_,e11⟩=>?_) fun _ _ e=>e.elim)
    subst e11
    exact wpAny_pure (wpAny_pure ⟨rfl,again I11 w10⟩)
 exact codeAny_compStart_list loop (T.self _ 0 _ _ _ st4 loop)
theorem zdj (S:zX X x ys js scope cl)(hc:X.calm=true)(hi:PI X (.Name x px) iter wi)(ht:∀s₀ H₀ ex,PTs (cxC X (x::ys) scope cl s₀ H₀ ex) ifs tt)(he:∀s₀ H₀ ex,PE (cxC X (x::ys) scope cl s₀ H₀ ex) elt te)
  (hs:∀x,foldedSetIterable iter X.env x=pure x:=by intro _;rfl):PE X (.ListComp elt [⟨.Name x px,iter,ifs,0⟩] scope pos) (zkV wi js tt te):=by
 intro pins s σ H Q I h
 rw [eval_ListComp]
 refine wpAny_comprehension_free (use:=none) rfl hs S.clos S.kind S.names (thn (hi pins s σ H _ I h) fun v s1 h1=>thn h1 fun itv s2 h2=>?_)
 obtain ⟨it,fp,tn,J,H2,e,I2,T,st2,f2,q⟩:=h2
 subst e
 refine zfG (Q:=Q) (R:=fun acc C=>compPost (model X.prog X.w) X.A X.xe none (EP X pins σ Q) acc C) S hc ht he I2 T st2 f2 q fun p C H' s' m hC hn hf I' q'=>?_
 refine ⟨m,hn,fun h' hb=>⟨.ref p,H',?_,rfl,q'⟩⟩
 exact I'.turned (it:=C) (t':=s'.toks) (fun b o hne e=>hb.extBut b o hne e) hf (Nat.ne_of_gt (Nat.lt_of_lt_of_le I2.lt hC)) (.inr (Nat.le_trans I2.sz hC))
  (fun y c e z=>by obtain ⟨v,w⟩:=I2.cell y c e;subst z;exact Nat.lt_irrefl _ (Nat.lt_of_lt_of_le w.lt hC)) fun p hp z=>by have q:=Heap.lt_size (I2.pin p hp).1;rw [z] at q;exact Nat.lt_irrefl _ (Nat.lt_of_lt_of_le q hC)
theorem zfZ {i:Nat}{y:Str}{py spos:Pos}(S:zX X x ys js scope cl)(hc:X.calm=true)(hi:PI X (.Name x px) iter wi)(ht:∀s₀ H₀ ex,PTs (cxC X (x::ys) scope cl s₀ H₀ ex) ifs tt)(he:∀s₀ H₀ ex,PE (cxC X (x::ys) scope cl s₀ H₀ ex) elt te)
  (hN:X.N.Nodup) (hy:X.N[i]? =some y) (hx:Loc X.env.scope y) (hsw:swapsWith (.ListComp elt [⟨.Name x px,iter,ifs,0⟩] scope pos) (some (.Name y py)) spos.line X.env=pure true)
  (hf:X.fn y=true∨X.env.scope.names.lookup y=some .local:=by first | exact .inl rfl | exact .inr rfl | assumption)
  (hs:∀x,foldedSetIterable iter X.env x=pure x:=by intro _;rfl):PS X (.Assign [.Name y py] (.ListComp elt [⟨.Name x px,iter,ifs,0⟩] scope pos) spos) (tAsg (zkV wi js tt te) (zaZ i)):=by
 intro pins s σ H D I h
 rw [exec_Assign_Name_used _ _ _ _ hsw]
 refine wpAny_bind (wpAny_standAt (wpAny_bind ?_))
 show wpAny _ X.A (do let _←comprehension (.ListComp elt [⟨.Name x px,iter,ifs,0⟩] scope pos) scope X.env _ (newList []) false (eval iter X.env) (some (assign (.Name y py) X.env))) _ _ s
 refine wpAny_bind (wpAny_mono (wpAny_comprehension_free (use:=some (assign (.Name y py) X.env)) (Q:=fun _ s'=>SP X pins D .next s') rfl hs S.clos S.kind S.names
  (thn (hi pins s σ H _ I h) fun v s1 h1=>thn h1 fun itv s2 h2=>?_)) (fun _ s' hq=>wpAny_pure (wpAny_pure hq)) fun _ _ e=>e)
 obtain ⟨it,fp,tn,J,H2,e,I2,T,st2,f2,q⟩:=h2
 subst e
 refine zfG (Q:=fun x H1=>zaZ i x σ H1 D.nx) (R:=fun acc C=>compPost (model X.prog X.w) X.A X.xe (some (assign (.Name y py) X.env)) (fun _ s'=>SP X pins D .next s') acc C) S hc ht he I2 T st2 f2 q fun p C H' s' m hC hn hf' I' q'=>?_
 have neL:C≠X.env.locals:=Nat.ne_of_gt (Nat.lt_of_lt_of_le I2.lt hC)
 have nfs:C∉X.fs:=I2.nofs hC
 have hn0:=hn
 obtain ⟨o,es,ep,ho,hd,r⟩:=hn
 have Ip:Inv X (pins++ [(C,o)]) σ H' s':=I'.pins_of fun p hp=>(List.mem_append.mp hp).elim (fun z=>I'.pin p (List.mem_append_right _ z)) fun z=>by
  have e:p=(C,o):=by simpa using z
  subst e
  exact ⟨ho,hf',neL,nfs,fun v w=>by rw [hd] at w;cases w⟩
 show wpAny _ _ (assign (.Name y py) X.env (.ref p)) _ _ s'
 refine thn (z7 (pos:=py) hN hy hx hf _ s' σ H' (.ref p) (.ref p) _ Ip rfl q') fun _ s'' ⟨σ8,H8,I8,q8⟩=>?_
 have pc:=I8.pin (C,o) (List.mem_append_right _ (List.mem_append_right _ (by simp)))
 refine ⟨m,⟨o,es,ep,pc.1,hd,r⟩,fun h' hb=>⟨σ8,H8,?_,q8⟩⟩
 have I9:Inv X pins σ8 H8 s'':=I8.pins_of fun p hp=>I8.pin p (List.mem_append_right _ (List.mem_append_left _ hp))
 exact I9.turned (it:=C) (t':=s''.toks) (fun b o hne e=>hb.extBut b o hne e) pc.2.1 neL (.inr (Nat.le_trans I2.sz hC))
  (fun y c e z=>by obtain ⟨v,w⟩:=I2.cell y c e;subst z;exact Nat.lt_irrefl _ (Nat.lt_of_lt_of_le w.lt hC)) fun p hp z=>by have q:=Heap.lt_size (I2.pin p hp).1;rw [z] at q;exact Nat.lt_irrefl _ (Nat.lt_of_lt_of_le q hC)
end
end L2
namespace L2
open PySem PySem.Spec PyProof.Rows
section
variable {X:Cx}
def zi7 (i j:Int):Prop:=0 < j∧j < 10 ^ 100
theorem zi7.log {i j:Int}(h:zi7 i j):j.natAbs.log2 < 9000:=by
 have h1:j.natAbs < 10 ^ 100:=by have:=h.1;have:=h.2;omega
 have h2:j.natAbs < 2 ^ 400:=Nat.lt_trans h1 (by decide+kernel)
 have h3:j.natAbs≠0:=by have:=h.1;omega
 have:=(Nat.log2_lt h3).mpr h2
 omega
theorem zaG:OpR X (binaryOp .FloorDiv) (rI zi7 fun i j=>.int (i / j)):=opI fun i j _ _ _ _ _ hc q=>by
 rw [←Int.fdiv_eq_ediv_of_nonneg i (Int.le_of_lt hc.1)] at q
 exact floordiv_int (by have:=hc.1;omega) q (.inl (PyProof.noPylong_of_log2 hc.log))
def zmD (K:PySem.W.Frag):List V→Hp→VK→Prop:=fun xs H Q=>∃x T t b,xs=[x,.ty T]∧TyOf K H x t∧PySem.W.kitOne K t (.type T)=some b∧Q (.bl b) H
theorem zae:za4 X (.builtin "isinstance") (zmD X.K):=by
 intro pins s σ H xs us Q I r h
 obtain ⟨x,T,t,b,rfl,ty,e,q⟩:=h
 obtain ⟨u,w',rfl,ru,rw'⟩:=vals2 r
 cases (show w'=Value.type T from rw')
 exact zhE I ru ty e fun tk=>⟨.bl b,H,I.tok tk,rfl,q⟩
example (K:PySem.W.Frag):PySem.W.kitOne K (.type "NoneType") (.type "int")=some false:=by rfl
example (K:PySem.W.Frag):PySem.W.kitOne K (.type "int") (.type "int")=some true:=by rfl
example (K:PySem.W.Frag):PySem.W.kitOne K (.type "tuple") (.type "str")=some false:=by rfl
example (K:PySem.W.Frag):PySem.W.kitOne K (.type "bool") (.type "int")=some true:=by rfl
example (K:PySem.W.Frag):PySem.W.kitOne K (.type "str") (.type "bool")=some false:=by rfl
def Its (x:Str):It:=⟨fun i _=>i < x.cps.size,fun i H v H'=>H'=H∧∃c,x.cps[i]? =some c∧v=.str ⟨#[c]⟩,fun i _=>x.cps.size≤i⟩
theorem zgh {P:Program}{w:World}{K:PySem.W.Frag}{tg:Expr}{x:Str}{it:Addr}{n:String}{t:Tok}(hn:["enumerate","zip","dict_itemiterator","dict_reverseitemiterator","odict_iterator","itertools.zip_longest","itertools.pairwise"].contains n=false)
  (W:∀A':Around,A'.handled=none→Walks P w A' it [it] [it] x.cps.size (SignAt x) (fun i h=>h.IsStrIter it n x t i))
  (E0:∀(A':Around) (s:Shared) (Q:Option Value→Shared→Prop) (E:Value→Shared→Prop) (i:Nat),A'.handled=none→s.heap.IsStrIter it n x t i→x.cps.size≤i→(∀h',(∀b o,b≠it→s.heap.get? b=some o→h'.get? b=some o)→Q none {s with heap:=h'})→wpAny (model P w) A' (pyNext (.ref it)) Q E s)
  (S0:∀(A':Around) (s:Shared) (Q:Value→Shared→Prop) (E:Value→Shared→Prop) (i:Nat),s.heap.IsStrIter it n x t i→Q (.ref it) s→wpAny (model P w) A' (pyIter (.ref it)) Q E s):
  Turn P w K tg (Its x) [it] it (fun i h=>h.IsStrIter it n x t i) where
 mem:=by simp
 obj:=fun i h st b hb=>by
  have e:b=it:=by simpa using hb
  subst e
  obtain ⟨o,e,c,d⟩:=st
  exact ⟨o,e,fun v z=>by rw [d] at z;cases z⟩
 keep:=fun i h h' st k=>by
  obtain ⟨o,e,r⟩:=st
  exact ⟨o,k it (by simp) o e,r⟩
 item:=by
  intro X hP hw hK hc i pins s σ H E I hf st hg
  subst hP hw hK
  obtain ⟨f0,f1,f2,f3,f4,f5⟩:=hf it (by simp)
  refine (W X.A (I.ok.hd hc)).item i s _ _ hg st fun v h' tk hv st' kk=>?_
  obtain ⟨c,u,hc',rfl⟩:=hv
  have I1:Inv X pins σ H {s with heap:=h',toks:=tk}:=I.turned (fun b o hb e=>kk b o (by simpa using hb) e) f0 f1 f3 f4 f5
  obtain ⟨o,e,cl,d⟩:=id st'
  exact ⟨_,rfl,zeV (s:={s with heap:=h',toks:=tk}) e cl d hn ⟨.str ⟨#[c]⟩,H,I1,⟨u,rfl⟩,⟨rfl,c,hc',rfl⟩,st',fun b hb=>(hf b hb).1⟩⟩
 done:=by
  intro X hP hw hK hc i pins s σ H E I hf st hg
  subst hP hw hK
  obtain ⟨f0,f1,f2,f3,f4,f5⟩:=hf it (by simp)
  exact E0 X.A s _ _ i (I.ok.hd hc) st hg fun h' eb=>⟨rfl,I.turned (t':=s.toks) (fun b o hb e=>eb b o hb e) f0 f1 f3 f4 f5⟩
 self:=fun A i s Q E st h=>S0 A s Q E i st h
def iStr (tl:TE):TI:=fun σ H R=>tl σ H fun x H1=>∃z,x=.str z∧R (Its z) H1
theorem zlb {tg l:Expr}{tl:TE}(hl:PE X l tl):PI X tg l (iStr tl):=by
 intro pins s σ H R I h
 refine thn (hl pins s σ H _ I h) fun v s1 ⟨x,H1,I1,r1,q1⟩=>?_
 obtain ⟨z,rfl,q⟩:=q1
 obtain ⟨t,rfl⟩:=r1
 have fp:∀b∈ [s1.heap.objs.size],FpOk X pins H1 b:=fun b hb=>by
  have e:b=s1.heap.objs.size:=by simpa using hb
  subst e
  exact I1.fpOk (Nat.le_refl _) (I1.hok.fresh (Nat.le_refl _))
 cases ha:z.cps.all (· < 128)
 ·refine wpAny_pyIter_wide ha ?_
  exact ⟨s1.heap.objs.size,[s1.heap.objs.size],_,_,H1,rfl,I1.kept (t':=s1.toks) fun b o e=>Heap.get?_push_of_some _ e,
   zgh (n:= "str_iterator") (t:=t) (by decide) (fun A' hA=>Walks.strWide hA _ z t) (fun A' s Q E i hA st hi hQ=>wpAny_pyNext_wide_end hA st (by simpa using hi) fun h' he'=>hQ h' fun b o hb e=>he' b o hb e) (fun A' s Q E i st hQ=>wpAny_pyIter_striter_wide st hQ),
   ⟨_,Heap.get?_push_size _ rfl,rfl,rfl⟩,fp,q⟩
 ·refine wpAny_pyIter_ascii ha ?_
  exact ⟨s1.heap.objs.size,[s1.heap.objs.size],_,_,H1,rfl,I1.kept (t':=s1.toks) fun b o e=>Heap.get?_push_of_some _ e,
   zgh (n:= "str_ascii_iterator") (t:=t) (by decide) (fun A' hA=>Walks.strAscii hA _ z t) (fun A' s Q E i hA st hi hQ=>wpAny_pyNext_ascii_end hA st (by simpa using hi) fun h' he'=>hQ h' fun b o hb e=>he' b o hb e) (fun A' s Q E i st hQ=>wpAny_pyIter_striter_ascii st hQ),
   ⟨_,Heap.get?_push_size _ rfl,rfl,rfl⟩,fp,q⟩
theorem zka {z:Str}{g:TG}{tb:TS}{D:Ends}{σ:St}{H:Hp}(Pv:Nat→St→Hp→Prop)(h0:Pv 0 σ H)
  (hs:∀i c σ H,z.cps[i]? =some c→Pv i σ H→g (.str ⟨#[c]⟩) σ H fun σ2 H2=>tb {D with nx:=Pv (i+1),ct:=Pv (i+1),bk:=D.nx} σ2 H2) (hd:∀σ H,Pv z.cps.size σ H→D.nx σ H):
  ∃W:Nat→Nat→St→Hp→Prop,(∃m,W 0 m σ H)∧∀i m σ H,W i m σ H→
   ((Its z).stop i H∧D.nx σ H)∨((Its z).go i H∧∃N:St→Hp→Prop,(∀σ' H',N σ' H'→∃m',m' < m∧W (i+1) m' σ' H')∧∀x H',(Its z).yld i H x H'→g x σ H' fun σ2 H2=>tb {D with nx:=N,ct:=N,bk:=D.nx} σ2 H2):=by
 refine ⟨fun i m σ H=>m=z.cps.size - i∧i≤z.cps.size∧Pv i σ H,⟨z.cps.size,by simp,Nat.zero_le _,h0⟩,?_⟩
 rintro i m σ H ⟨rfl,hi,p⟩
 by_cases hlt:i < z.cps.size
 ·refine .inr ⟨hlt,Pv (i+1),fun σ' H' p'=>⟨z.cps.size - (i+1),by omega,rfl,hlt,p'⟩,fun x H' y=>?_⟩
  obtain ⟨e,c,ec,ex⟩:=y
  subst e ex
  exact hs i c σ _ ec p
 ·have e:i=z.cps.size:=by omega
  subst e
  exact .inl ⟨Nat.le_refl _,hd σ H p⟩
def Itrs (lo st:Int)(n:Nat):It:=⟨fun i _=>i < n,fun i H x H'=>H'=H∧x=.int (lo+i * st),fun i _=>n≤i⟩
theorem zgb {P:Program}{w:World}{K:PySem.W.Frag}{tg:Expr}(it:Addr)(lo st:Int)(n:Nat):Turn P w K tg (Itrs lo st n) [it] it (fun i h=>IsRangeIter h it (lo+(i:Nat) * st) ((n:Int) - (i:Nat)) st) where
 mem:=by simp
 obj:=fun i h st b hb=>by
  have e:b=it:=by simpa using hb
  subst e
  exact ⟨_,st,fun v z=>by
   have z':Data.fields _=Data.cell v:=z
   cases z'⟩
 keep:=fun i h h' st k=>k it (by simp) _ st
 item:=by
  intro X hP hw hK hc i pins s σ H E I hf st' hg
  subst hP hw hK
  obtain ⟨f0,f1,f2,f3,f4,f5⟩:=hf it (by simp)
  have W:=Walks.range (prog:=X.prog) (w:=X.w) (I.ok.hd hc) it lo st n
  refine W.item i s _ _ hg st' fun v h' tk hv st'' kk=>?_
  obtain ⟨t,rfl⟩:=hv
  have I1:Inv X pins σ H {s with heap:=h',toks:=tk}:=I.turned (fun b o hb e=>kk b o (by simpa using hb) e) f0 f1 f3 f4 f5
  exact ⟨_,rfl,zeV (s:={s with heap:=h',toks:=tk}) (n:= "range_iterator") st'' rfl rfl (by decide) ⟨.int (lo+i * st),H,I1,⟨t,rfl⟩,⟨rfl,rfl⟩,st'',fun b hb=>(hf b hb).1⟩⟩
 done:=by
  intro X hP hw hK hc i pins s σ H E I hf st' hg
  subst hP hw hK
  obtain ⟨f0,f1,f2,f3,f4,f5⟩:=hf it (by simp)
  exact wpAny_pyNext_range_end (I.ok.hd hc) st' (by have:n≤i:=hg;omega) fun h' eb=>⟨rfl,I.turned (t':=s.toks) (fun b o hb e=>eb b o hb e) f0 f1 f3 f4 f5⟩
 self:=fun _ _ _ _ _ st h=>wpAny_pyIter_rangeiter st h
def zmh (ta:TA):TI:=fun σ H R=>ta σ H fun vs H1=>∃j c:Int,vs=[.int 0,.int j,.int c]∧0≤j∧j < 2 ^ 60∧0 < c∧c < 1000∧R (Itrs 0 c ((j+c - 1) / c).toNat) H1
theorem zea {j c:Int}(h0:0≤j)(hc:0 < c):Builtin.Range.rangeSize 0 j c=(j+c - 1) / c:=by
 unfold Builtin.Range.rangeSize
 rw [if_pos hc]
 by_cases h:(0:Int) < j
 ·rw [if_pos h]
  have e:j+c - 1=(j - 0 - 1)+c * 1:=by omega
  rw [e,Int.add_mul_ediv_left _ _ (by omega)]
 ·rw [if_neg h]
  have e:j=0:=by omega
  subst e
  rw [Int.ediv_eq_zero_of_lt (by omega) (by omega)]
theorem vals3 {x y z:V}{us:List Value}(r:Vals [x,y,z] us):∃u v w',us=[u,v,w']∧RelV x u∧RelV y v∧RelV z w':=by
 cases r with
 | cons r1 r=>cases r with
  | cons r2 r=>cases r with
   | cons r3 r=>cases r;exact ⟨_,_,_,rfl,r1,r2,r3⟩
theorem zgf {j c:Int}(h0:0≤j)(h1:j < 2 ^ 60)(hc:0 < c)(hc2:c < 1000):Builtin.Range.small 0 j c=true:=by
 have b1:(j+c - 1) / c≤j+c - 1:=Int.ediv_le_self _ (by omega)
 have b2:0≤(j+c - 1) / c:=Int.ediv_nonneg (by omega) (by omega)
 unfold Builtin.Range.small
 rw [zea h0 hc]
 simp only [Builtin.Range.rangeFitsLong,Bool.and_eq_true,Bool.or_eq_true,decide_eq_true_eq,beq_iff_eq]
 generalize (j+c - 1) / c=d at b1 b2 ⊢
 have hc':c > 0:=hc
 simp only [hc',if_true,Bool.and_eq_true,decide_eq_true_eq]
 omega
theorem zh4 {tg a b c:Expr}{ta:TA}{p pos:Pos}(hg:Gl X "range") (hm:X.mg "range" =none) (ha:PA X [a,b,c] ta) (hs:starEach [a,b,c] X.env=[(false,eval a X.env),(false,eval b X.env),(false,eval c X.env)]:=by rfl)
  (hs2:starEach [b,c] X.env=[(false,eval b X.env),(false,eval c X.env)]:=by rfl):PI X tg (.Call (.Name "range" p) [a,b,c] [] pos) (zmh ta):=by
 intro pins s σ H R I h
 refine Call_ (zc2 I hg hm boot_range (PyProof.Rows.callWith_type1 (thn (ha pos pins s σ H _ I h) fun us s1 ⟨vs,H1,I1,r1,q1⟩=>?_) (by rw [hs,hs2]) (by rw [hs2];rfl)))
 obtain ⟨j,c,rfl,h0,h1,hc,hc2,q⟩:=q1
 obtain ⟨u,v,w',rfl,⟨t1,rfl⟩,⟨t2,rfl⟩,⟨t3,rfl⟩⟩:=vals3 r1
 refine call_range_3 (by omega) ?_ (.inl (PyProof.noPylong_small (by omega)))
 refine wpAny_pyIter_range (IsRange.new ..) (zgf h0 h1 hc hc2) ?_
 have I2:Inv X pins σ H1 {s1 with heap:=s1.heap.push {cls:=.type "range",data:=.fields #[.int 0 t1,.int j t2,.int c t3]}}:=I1.kept (t':=s1.toks) fun b o e=>Heap.get?_push_of_some _ e
 refine ⟨_,[_],_,_,H1,rfl,I2.kept (t':=s1.toks) fun b o e=>Heap.get?_push_of_some _ e,zgb _ 0 c ((j+c - 1) / c).toNat,?_,fun b hb=>?_,q⟩
 ·have b2:0≤(j+c - 1) / c:=Int.ediv_nonneg (by omega) (by omega)
  have e1:(0:Int)+((0:Nat):Int) * c=0:=by simp
  have e2:(((((j+c - 1) / c).toNat:Nat):Int) - ((0:Nat):Int))=Builtin.Range.rangeSize 0 j c:=by rw [zea h0 hc];omega
  show IsRangeIter _ _ ((0:Int)+((0:Nat):Int) * c) (((((j+c - 1) / c).toNat:Nat):Int) - ((0:Nat):Int)) c
  rw [e1,e2]
  exact Heap.get?_push_size _ rfl
 ·have e:=List.mem_singleton.mp hb
  subst e
  exact I2.fpOk (Nat.le_refl _) (I2.hok.fresh (Nat.le_refl _))
end
end L2
namespace L2
open PySem PySem.Spec PyProof.Rows
def cutS (x:Str)(lo hi:Option Int):Str:=⟨((x.cps.toList.drop (HT.sIx x.length 0 lo)).take (HT.sIx x.length x.length hi - HT.sIx x.length 0 lo)).toArray⟩
theorem zjS (l:List Nat)(i k:Nat):(List.range k).filterMap (fun m=>l[i+m]?)=(l.drop i).take k:=by
 induction k with
 | zero=>simp
 | succ k ih=>
  rw [List.range_succ,List.filterMap_append,ih]
  by_cases h:i+k < l.length
  ·have e:l[i+k]? =some l[i+k]:=List.getElem?_eq_getElem h
   rw [List.take_add_one]
   simp [List.getElem?_drop,e]
  ·have e:l[i+k]? =none:=List.getElem?_eq_none (by omega)
   have e2:((l.drop i).take (k+1))=(l.drop i).take k:=by
    rw [List.take_of_length_le (by rw [List.length_drop];omega),List.take_of_length_le (by rw [List.length_drop];omega)]
   rw [e2]
   simp [e]
theorem zht (lo hi:Option Int)(n:Nat):Builtin.Str.strSliceIndices lo hi 1 n=(List.range (HT.sIx n n hi - HT.sIx n 0 lo)).map fun k=>HT.sIx n 0 lo+k:=by
 have c0:∀(v:Int) (d:Nat),(max 0 (min (if v < 0 then v+(n:Int) else v) (n:Int)))=((HT.sIx n d (some v):Nat):Int):=fun v d=>by
  rw [←HT.clip_eq v n d]
  by_cases h:v < 0
  ·simp only [if_pos h];omega
  ·simp only [if_neg h];omega
 have key:∀a b:Nat,sliceRange (a:Int) (b:Int) 1=(List.range (b - a)).map fun k=>a+k:=fun a b=>by
  unfold sliceRange
  have e1:(if (1:Int) > 0 then (if (a:Int) < (b:Int) then ((b:Int) - (a:Int)+1 - 1) / 1 else 0) else (if (a:Int) > (b:Int) then ((a:Int) - (b:Int) - 1 - 1) / (-1) else 0)).toNat=b - a:=by
   rw [if_pos (by decide)]
   split
   ·rw [Int.ediv_one];omega
   ·omega
  show List.map _ (List.range (if (1:Int) > 0 then (if (a:Int) < (b:Int) then ((b:Int) - (a:Int)+1 - 1) / 1 else 0) else (if (a:Int) > (b:Int) then ((a:Int) - (b:Int) - 1 - 1) / (-1) else 0)).toNat)=_
  rw [e1]
  refine List.map_congr_left fun k _=>?_
  show ((a:Int)+1 * (k:Int)).toNat=a+k
  omega
 unfold Builtin.Str.strSliceIndices
 simp only [show (1:Int) > 0 by decide,if_true]
 cases lo with
 | none=>
  cases hi with
  | none=>exact key 0 n
  | some v=>dsimp only;rw [c0 v n];exact key 0 _
 | some u=>
  cases hi with
  | none=>dsimp only;rw [c0 u 0];exact key _ n
  | some v=>dsimp only;rw [c0 u 0,c0 v n];exact key _ _
theorem zhA (x:Str)(lo hi:Option Int):Txt.slice x lo hi=cutS x lo hi:=by
 have h1:=HT.sIx_le x.length 0 (Nat.zero_le _) lo
 have h2:=HT.sIx_le x.length x.length (Nat.le_refl _) hi
 have hn:x.cps.toList.length=x.length:=Array.length_toList
 have e:((Builtin.Str.strSliceIndices lo hi 1 x.length).filterMap (x.cps[·]?))=(x.cps.toList.drop (HT.sIx x.length 0 lo)).take (HT.sIx x.length x.length hi - HT.sIx x.length 0 lo):=by
  rw [zht,List.filterMap_map,←zjS]
  refine congrArg (fun f=>List.filterMap f _) ?_
  funext m
  show x.cps[_]? =x.cps.toList[_]?
  rw [Array.getElem?_toList]
 unfold Txt.slice cutS
 split
 ·rename_i h
  have hl:(Builtin.Str.strSliceIndices lo hi 1 x.length).length=x.length:=by simpa using h
  rw [zht,List.length_map,List.length_range] at hl
  have a0:HT.sIx x.length 0 lo=0∨x.length=0:=by omega
  rcases a0 with a0 | a0
  ·rw [a0,List.drop_zero,Nat.sub_zero,List.take_of_length_le (by omega)]
  ·have en:x.cps.toList=[]:=List.eq_nil_of_length_eq_zero (by omega)
   rw [en,List.drop_nil,List.take_nil]
   have:x.cps= #[]:=by rw [←Array.toList_inj];exact en
   rcases x with ⟨c⟩
   rw [show c= #[] from this]
 ·rw [e]
section
variable {X:Cx}
def rSlS:V→Option Int→Option Int→Hp→VK→Prop:=fun x lo hi H Q=>∃z,x=.str z∧z.length≤sizeLine∧Q (.str (cutS z lo hi)) H
theorem zlj:SlR X rSlS:=by
 intro pins s σ H x v vl vu lo hi sl Q I rx hs pl pu h
 obtain ⟨z,rfl,hz,q⟩:=h
 obtain ⟨t,rfl⟩:=rx
 refine ⟨"str",_,F.slot_str_getitem.lookup,typeIs_str _ _ _,?_⟩
 have main:∀(l u:Option (Int ×Tok)),vl=partValue l→vu=partValue u→lo=l.map (·.1)→hi=u.map (·.1)→wpAny (model X.prog X.w) X.A (getItem (.str z t) (.ref sl)) (EP X pins σ Q) X.xe s:=fun l u e1 e2 e3 e4=>by
  subst e1 e2 e3 e4
  refine wpAny_getItem_str_slice (l:=l) (u:=u) (st:=none) hs rfl (post_val_or_str ⟨Nat.le_trans (Txt.slice_le z _ _) hz,fun t' k=>?_⟩)
  show EP X pins σ Q (.str (Txt.slice z (l.map (·.1)) (u.map (·.1))) t') _
  rw [zhA]
  exact ⟨.str _,H,I.tok k,⟨_,rfl⟩,q⟩
 cases pl with
 | none=>
  cases pu with
  | none=>exact main none none rfl rfl rfl rfl
  | int j u=>exact main none (some (j,u)) rfl rfl rfl rfl
 | int i t'=>
  cases pu with
  | none=>exact main (some (i,t')) none rfl rfl rfl rfl
  | int j u=>exact main (some (i,t')) (some (j,u)) rfl rfl rfl rfl
end
end L2
namespace L2
open PySem PySem.Spec PyProof.Rows
structure Dfn (K:PySem.W.Frag)(mg:Str→Option Value)(x:Str)(st:Stmt)(ps:List Str):Prop where
 ex:∃f fd,Fun K x x st f fd∧Binds K fd ps []∧mg x=some (.ref f)
structure Fn (P:Program)(w:World)(K:PySem.W.Frag)(mg:Str→Option Value)(base:Heap)(x:Str)(k:Nat)(ps:List Str)(sp:Sp):Prop where
 ex:∃f fd,FnOk P w K mg base CX0 k f fd ps sp∧Binds K fd ps []∧PySem.W.keepIn K (.ref f)=true∧mg x=some (.ref f)
section
variable {P:Program}{w:World}{K:PySem.W.Frag}{mg:Str→Option Value}{base:Heap}{x:Str}{st:Stmt}{ps N:List Str}{sp sp':Sp}{k:Nat}
theorem Fn.mono {j:Nat}(F:Fn P w K mg base x j ps sp)(h:j≤k):Fn P w K mg base x k ps sp:=by
 obtain ⟨f,fd,a,b⟩:=F.ex
 exact ⟨f,fd,a.mono h,b⟩
theorem Fn.imp (F:Fn P w K mg base x k ps sp)(h:∀vs H Q E,sp' vs H Q E→sp vs H Q E):Fn P w K mg base x k ps sp':=by
 obtain ⟨f,fd,a,b⟩:=F.ex
 exact ⟨f,fd,a.imp h,b⟩
theorem Dfn.ok (D:Dfn K mg x st ps)(S:zv N ps (zg st))(len:∀vs H Q E,sp vs H Q E→vs.length=ps.length)
  (hbody:∀(f:Addr) (cdv:Value) (A:Around) (outer:List Env) (s:Shared) (H:Hp) (vs:List V) (Q:VK) (E:XK),Room k (A.deeper (envOfC x (zg st) s.heap.objs.size f cdv))→sp vs H Q E→
   ∃t,PSs (cxOf CX0 P w K mg base N x (zg st) f cdv A outer s H E).nox (zY st) t∧t {nx:=fun _ H'=>Q .non H',rt:=Q} (start N vs) H):Fn P w K mg base x (k+1) ps sp:=by
 obtain ⟨f,fd,F,b,m⟩:=D.ex
 exact ⟨f,fd,F.ok S len (fun cdv A outer s H vs Q E hr h=>hbody f cdv A outer s H vs Q E hr h),b,F.kp,m⟩
theorem Dfn.never (D:Dfn K mg x st ps)(no:∀vs H Q E,¬sp vs H Q E):Fn P w K mg base x k ps sp:=by
 obtain ⟨f,fd,F,b,m⟩:=D.ex
 exact ⟨f,fd,⟨fun vs H Q E h=>absurd h (no vs H Q E),fun A outer s H args us vs Q E _ _ _ _ h=>absurd h (no vs H Q E)⟩,b,F.kp,m⟩
end
section
variable {X:Cx}{x:Str}{ps:List Str}{sp:Sp}{k k':Nat}{e:Expr}{es:List Expr}{t:TA}{p pos:Pos}
theorem zC (F:Fn X.prog X.w X.K X.mg X.base x k ps sp)(hr:Room k' X.A)(hle:k≤k')(hg:Gl X x)(ha:PA X (e::es) t)(hd:(x==("__debug__" :Str))=false:=by decide)
  (he:starEach (e::es) X.env=(false,eval e X.env)::starEach es X.env:=by rfl) (hpl:∀pos,(backTo pos (starEach es X.env)).any (·.1)=false:=by intro _;rfl):PE X (.Call (.Name x p) (e::es) [] pos) (ziX sp [] E0 t):=by
 obtain ⟨f,fd,a,b,kp,m⟩:=F.ex
 exact zhp a (hr.mono hle) hg m kp b .nil zkY ha hd he (hpl _)
end
section
variable {X:Cx}
end
end L2
namespace Pv
open PySem L2
inductive Th where
 | non
 | int (i:Int)
 | str (x:Str)
 | tup (ts:List Th)
mutual
def nodes:Th→Nat
 | .non=>1
 | .int _=>1
 | .str _=>1
 | .tup ts=>1+zcr ts
def zcr:List Th→Nat
 | []=>0
 | t::r=>nodes t+zcr r
end
mutual
def dep:Th→Nat
 | .non=>0
 | .int _=>0
 | .str _=>0
 | .tup ts=>depL ts+1
def depL:List Th→Nat
 | []=>0
 | t::r=>max (dep t) (depL r)
end
def Sign (c:Nat):Prop:=32≤c∧c≤126∧c≠37
def zfX (x:Str):Prop:=x.length≤60∧∀c∈x.cps.toList,Sign c
mutual
def Wf:Th→Prop
 | .non=>True
 | .int i=> -(10 ^ 30)≤i∧i≤10 ^ 30
 | .str x=>zfX x
 | .tup ts=>ts.length≤40∧WfL ts
def WfL:List Th→Prop
 | []=>True
 | t::r=>Wf t∧WfL r
end
theorem WfL.get:∀{ts:List Th} {i:Nat} {t:Th},WfL ts→ts[i]? =some t→Wf t
 | [],_,_,_,e=>by simp at e
 | u::r,0,t,h,e=>by simp at e;subst e;exact h.1
 | u::r,i+1,t,h,e=>WfL.get (i:=i) h.2 (by simpa using e)
theorem WfL.snoc:∀{ts:List Th} {t:Th},WfL ts→Wf t→WfL (ts++ [t])
 | [],_,_,h=>⟨h,trivial⟩
 | _::_,_,h,h'=>⟨h.1,WfL.snoc h.2 h'⟩
theorem zbw:∀{ts:List Th} {i:Nat} {t:Th},ts[i]? =some t→dep t≤depL ts
 | [],_,_,e=>by simp at e
 | u::r,0,t,e=>by simp at e;subst e;exact Nat.le_max_left _ _
 | u::r,i+1,t,e=>Nat.le_trans (zbw (i:=i) (by simpa using e)) (Nat.le_max_right _ _)
inductive Rep (H:Hp):Th→V→Prop where
 | non:Rep H .non .non
 | int (i:Int):Rep H (.int i) (.int i)
 | str (x:Str):Rep H (.str x) (.str x)
 | tup {a:Addr} {xs:List V} {ts:List Th} (e:H a=some (.tup xs)) (l:xs.length=ts.length) (h:∀(i:Nat) (x:V) (t:Th),xs[i]? =some x→ts[i]? =some t→Rep H t x):Rep H (.tup ts) (.ref a)
def Tups (H H':Hp):Prop:=∀b xs,H b=some (.tup xs)→H' b=some (.tup xs)
theorem Rep.keep {H H':Hp}{t:Th}{v:V}(r:Rep H t v)(k:Tups H H'):Rep H' t v:=by
 induction r with
 | non=>exact .non
 | int i=>exact .int i
 | str x=>exact .str x
 | tup e l h ih=>exact .tup (k _ _ e) l ih
def Frm (ws:List Addr)(H H':Hp):Prop:=∀b o,b∉ws→H b=some o→H' b=some o
theorem Frm.refl {ws:List Addr}{H:Hp}:Frm ws H H:=fun _ _ _ h=>h
theorem Frm.trans {ws:List Addr}{H H1 H2:Hp}(a:Frm ws H H1)(b:Frm ws H1 H2):Frm ws H H2:=fun c o n h=>b c o n (a c o n h)
theorem Frm.mono {ws ws':List Addr}{H H1:Hp}(a:Frm ws H H1)(h:∀b∈ws,b∈ws'):Frm ws' H H1:=fun c o n e=>a c o (fun z=>n (h c z)) e
theorem Frm.new {ws:List Addr}{H:Hp}{p:Addr}{o:HO}(h:H p=none):Frm ws H (upd H p o):=fun b u _ q=>by rw [zq (zr q h)];exact q
theorem Frm.upd {ws:List Addr}{H:Hp}{p:Addr}{o:HO}(h:p∈ws):Frm ws H (upd H p o):=fun b u n q=>by rw [zq (fun z=>n (by rw [z];exact h))];exact q
theorem Frm.same {H H':Hp}(a:Frm [] H H'):Same H H':=fun b o h=>a b o (by simp) h
theorem Frm.of {ws:List Addr}{H H':Hp}(a:Same H H'):Frm ws H H':=fun b o _ h=>a b o h
theorem Frm.at {ws:List Addr}{H H':Hp}{b:Addr}{o:HO}(a:Frm ws H H')(h:H b=some o)(n:b∉ws):H' b=some o:=a b o n h
def NoT (ws:List Addr)(H:Hp):Prop:=∀b∈ws,∀xs,H b≠some (.tup xs)
theorem Frm.tups {ws:List Addr}{H H':Hp}(a:Frm ws H H')(n:NoT ws H):Tups H H':=fun b xs e=>a b _ (fun z=>n b z xs e) e
theorem Same.tups {H H':Hp}(a:Same H H'):Tups H H':=fun b xs e=>a b _ e
theorem Tups.trans {H H1 H2:Hp}(a:Tups H H1)(b:Tups H1 H2):Tups H H2:=fun c xs e=>b c xs (a c xs e)
theorem Tups.upd {H:Hp}{p:Addr}{o:HO}(h:∀xs,H p≠some (.tup xs)):Tups H (upd H p o):=fun b xs e=>by rw [zq (fun z=>h xs (by rw [←z];exact e))];exact e
theorem Tups.new {H:Hp}{p:Addr}{o:HO}(h:H p=none):Tups H (L2.upd H p o):=Tups.upd fun xs e=>by rw [h] at e;cases e
def zjX (H:Hp)(row:Addr):Prop:=∃a m:Int,H row=some (.lst [.int a,.int m])∧(m=0∨(m=1∧0≤a∧a < 536870909))
theorem zjX.keep {H H':Hp}{row:Addr}{ws:List Addr}(r:zjX H row)(f:Frm ws H H')(n:row∉ws):zjX H' row:=by
 obtain ⟨a,m,e,h⟩:=r
 exact ⟨a,m,f row _ n e,h⟩
end Pv
namespace L2
open PySem PySem.Spec PyProof.Rows
section
variable {X:Cx}{x y:Str}{scope:Scope}{j:Nat}{c:Addr}
theorem zcH {env:Env}{p:Str ×NameKind}(h:p∈(relabel scope env).names):∃q∈scope.names,p.1=q.1∧(p=q∨q.2=.free):=by
 obtain ⟨q,hq,e⟩:=List.mem_map.mp h
 obtain ⟨n,k⟩:=q
 refine ⟨(n,k),hq,?_⟩
 dsimp only at e
 split at e
 ·rename_i hc
  subst e
  refine ⟨rfl,.inr ?_⟩
  have:=(Bool.and_eq_true _ _).mp ((Bool.and_eq_true _ _).mp hc).1
  simpa using this.1
 ·subst e
  exact ⟨rfl,.inl rfl⟩
theorem zX.zero (kind:scope.kind=.function)(nf:∀y∈scope.names,y.2≠ .free)(nc:∀y∈scope.names,y.2≠ .cell)(nm:∀y∈scope.names,y.2=.local→scope.names.lookup y.1=some .local)(tgt:scope.names.lookup x=some .local):
  zX X x [] [] scope [] where
 clos:=closureFor_none nf
 kind:=kind
 nocell:=nc
 names:=nm
 tgt:=tgt
 nd:=by simp
 sub:=fun p hp=>by simp at hp
 has:=fun p hp hk=>by
  obtain ⟨q,hq,e,h | h⟩:=zcH hp
  ·subst h
   rcases hk with hk | hk
   ·exact absurd hk (nc _ hq)
   ·exact absurd hk (nf _ hq)
  ·exact absurd h (nf _ hq)
 fr:=fun i y e=>by simp at e
 len:=rfl
theorem zX.one (clos:closureFor scope X.env=pure [(y,c)])(kind:scope.kind=.function)(nc:∀y∈scope.names,y.2≠ .cell)(nm:∀y∈scope.names,y.2=.local→scope.names.lookup y.1=some .local)(tgt:scope.names.lookup x=some .local)
  (ne:x≠y) (cell:X.env.cells.lookup y=some c) (only:∀q∈scope.names,q.2=.free→q.1=y) (hN:X.N[j]? =some y) (hk:X.env.kindOf y=some .cell∨X.env.kindOf y=some .free)
  (hk':(relabel scope X.env).names.lookup y=some .cell∨(relabel scope X.env).names.lookup y=some .free):zX X x [y] [j] scope [(y,c)] where
 clos:=clos
 kind:=kind
 nocell:=nc
 names:=nm
 tgt:=tgt
 nd:=by simp [ne]
 sub:=fun p hp=>by
  cases List.mem_singleton.mp hp
  exact cell
 has:=fun p hp hk=>by
  obtain ⟨q,hq,e,h | h⟩:=zcH hp
  ·subst h
   rcases hk with hk | hk
   ·exact absurd hk (nc _ hq)
   ·simp [only _ hq hk]
  ·simp [e,only _ hq h]
 fr:=fun i z e=>by
  cases i with
  | zero=>cases e;exact ⟨j,rfl,hN,hk,hk'⟩
  | succ i=>simp at e
 len:=rfl
end
theorem ifT {c:Bool}{A B:Prop}(h:c=true)(a:A):if c=true then A else B:=by rw [if_pos h];exact a
theorem ifF {c:Bool}{A B:Prop}(h:c=false)(b:B):if c=true then A else B:=by rw [if_neg (by rw [h];exact Bool.false_ne_true)];exact b
theorem ifB {c:Bool}{A B:Prop}(a:c=true→A)(b:c=false→B):if c=true then A else B:=by
 cases c with
 | true=>exact ifT rfl (a rfl)
 | false=>exact ifF rfl (b rfl)
theorem zR {i j:Int}:decide (V.int i=V.int j)=decide (i=j):=by
 by_cases h:i=j
 ·subst h;simp
 ·rw [decide_eq_false h];exact decide_eq_false fun z=>h (V.int.inj z)
end L2
namespace L2
open PySem PySem.Spec PyProof.Rows
section
variable {X:Cx}{K:PySem.W.Frag}
theorem zg2 (h:X.K=K):IxR X (rIxT K):=h ▸ zA
end
end L2
namespace L2
open PySem PySem.Spec PyProof.Rows
section
variable {X:Cx}{x:Str}{ps:List Str}{sp:Sp}{k k':Nat}{p pos:Pos}
end
end L2
namespace L2
open PySem PySem.Spec PyProof.Rows Px
structure FnX (P:Program)(w:World)(K:PySem.W.Frag)(mg:Str→Option Value)(base:Heap)(x:Str)(k:Nat)(ps:List Str)(sp:Sp):Prop where
 ex:∃f fd,FnOk P w K mg base (CX1 P w) k f fd ps sp∧Binds K fd ps []∧PySem.W.keepIn K (.ref f)=true∧mg x=some (.ref f)
structure Mdf (K:PySem.W.Frag)(C:Addr)(m qual:Str)(st:Stmt)(ps:List Str):Prop where
 ex:∃f fd,Fun K m qual st f fd∧Binds K fd ps []∧Meth K C m f
structure Mt (P:Program)(w:World)(K:PySem.W.Frag)(mg:Str→Option Value)(base:Heap)(CX:CXT)(C:Addr)(m:Str)(k:Nat)(ps:List Str)(sp:Sp):Prop where
 ex:∃f fd,FnOk P w K mg base CX k f fd ps sp∧Binds K fd ps []∧Meth K C m f
structure Mkd (K:PySem.W.Frag)(mg:Str→Option Value)(x:Str)(C:Addr)(qual:Str)(st:Stmt)(ps:List Str):Prop where
 ex:∃f fd,Fun K "__init__" qual st f fd∧Binds K fd ps []∧Mk K C f∧mg x=some (.ref C)
structure Mkr (P:Program)(w:World)(K:PySem.W.Frag)(mg:Str→Option Value)(base:Heap)(x:Str)(C:Addr)(k:Nat)(ps:List Str)(sp:Sp):Prop where
 ex:∃f fd,FnOk P w K mg base CX0 k f fd ps sp∧Binds K fd ps []∧Mk K C f∧mg x=some (.ref C)
structure XId (K:PySem.W.Frag)(mg:Str→Option Value)(x:Str)(C:Addr)(qual:Str)(st:Stmt)(ps:List Str):Prop where
 cl:XCls K C
 ex:∃f fd,Fun K "__init__" qual st f fd∧Binds K fd ps []∧PySem.W.findIn K (.ref C) "__init__" =some (some (.ref f))∧PySem.W.isFn K (.ref f)=true∧mg x=some (.ref C)
structure XI (P:Program)(w:World)(K:PySem.W.Frag)(mg:Str→Option Value)(base:Heap)(x:Str)(C:Addr)(k:Nat)(ps:List Str)(sp:Sp):Prop where
 cl:XCls K C
 ex:∃f fd,FnOk P w K mg base CX0 k f fd ps sp∧Binds K fd ps []∧PySem.W.findIn K (.ref C) "__init__" =some (some (.ref f))∧PySem.W.isFn K (.ref f)=true∧mg x=some (.ref C)
structure XP (K:PySem.W.Frag)(mg:Str→Option Value)(x:Str)(C:Addr):Prop where
 cl:XCls K C
 ei:PySem.W.excIn K C bmV "ValueError.__new__" =true
 mg:mg x=some (.ref C)
section
variable {P:Program}{w:World}{K:PySem.W.Frag}{mg:Str→Option Value}{base:Heap}{x m qual:Str}{C:Addr}{st:Stmt}{ps N:List Str}{sp sp':Sp}{k:Nat}{CX:CXT}
theorem FnX.mono {j:Nat}(F:FnX P w K mg base x j ps sp)(h:j≤k):FnX P w K mg base x k ps sp:=by
 obtain ⟨f,fd,a,b⟩:=F.ex
 exact ⟨f,fd,a.mono h,b⟩
theorem Dfn.okX (D:Dfn K mg x st ps)(S:zv N ps (zg st))(len:∀vs H Q E,sp vs H Q E→vs.length=ps.length)
  (hbody:∀(f:Addr) (cdv:Value) (A:Around) (outer:List Env) (s:Shared) (H:Hp) (vs:List V) (Q:VK) (E:XK),Room k (A.deeper (envOfC x (zg st) s.heap.objs.size f cdv))→sp vs H Q E→
   ∃t,PSs (cxOf (CX1 P w) P w K mg base N x (zg st) f cdv A outer s H E) (zY st) t∧t {nx:=fun _ H'=>Q .non H',rt:=Q} (start N vs) H):FnX P w K mg base x (k+1) ps sp:=by
 obtain ⟨f,fd,F,b,m⟩:=D.ex
 exact ⟨f,fd,F.okX S len (fun cdv A outer s H vs Q E hr h=>hbody f cdv A outer s H vs Q E hr h),b,F.kp,m⟩
theorem Mdf.ok (D:Mdf K C m qual st ps)(S:zv N ps (zg st))(len:∀vs H Q E,sp vs H Q E→vs.length=ps.length)
  (hbody:∀(f:Addr) (cdv:Value) (A:Around) (outer:List Env) (s:Shared) (H:Hp) (vs:List V) (Q:VK) (E:XK),Room k (A.deeper (envOfC qual (zg st) s.heap.objs.size f cdv))→sp vs H Q E→
   ∃t,PSs (cxOf CX0 P w K mg base N qual (zg st) f cdv A outer s H E).nox (zY st) t∧t {nx:=fun _ H'=>Q .non H',rt:=Q} (start N vs) H):Mt P w K mg base CX0 C m (k+1) ps sp:=by
 obtain ⟨f,fd,F,b,me⟩:=D.ex
 exact ⟨f,fd,F.ok S len (fun cdv A outer s H vs Q E hr h=>hbody f cdv A outer s H vs Q E hr h),b,me⟩
theorem Mdf.okX (D:Mdf K C m qual st ps)(S:zv N ps (zg st))(len:∀vs H Q E,sp vs H Q E→vs.length=ps.length)
  (hbody:∀(f:Addr) (cdv:Value) (A:Around) (outer:List Env) (s:Shared) (H:Hp) (vs:List V) (Q:VK) (E:XK),Room k (A.deeper (envOfC qual (zg st) s.heap.objs.size f cdv))→sp vs H Q E→
   ∃t,PSs (cxOf (CX1 P w) P w K mg base N qual (zg st) f cdv A outer s H E) (zY st) t∧t {nx:=fun _ H'=>Q .non H',rt:=Q} (start N vs) H):Mt P w K mg base (CX1 P w) C m (k+1) ps sp:=by
 obtain ⟨f,fd,F,b,me⟩:=D.ex
 exact ⟨f,fd,F.okX S len (fun cdv A outer s H vs Q E hr h=>hbody f cdv A outer s H vs Q E hr h),b,me⟩
theorem Mkd.ok (D:Mkd K mg x C qual st ps)(S:zv N ps (zg st))(len:∀vs H Q E,sp vs H Q E→vs.length=ps.length)
  (hbody:∀(f:Addr) (cdv:Value) (A:Around) (outer:List Env) (s:Shared) (H:Hp) (vs:List V) (Q:VK) (E:XK),Room k (A.deeper (envOfC qual (zg st) s.heap.objs.size f cdv))→sp vs H Q E→
   ∃t,PSs (cxOf CX0 P w K mg base N qual (zg st) f cdv A outer s H E).nox (zY st) t∧t {nx:=fun _ H'=>Q .non H',rt:=Q} (start N vs) H):Mkr P w K mg base x C (k+1) ps sp:=by
 obtain ⟨f,fd,F,b,mk,mm⟩:=D.ex
 exact ⟨f,fd,F.ok S len (fun cdv A outer s H vs Q E hr h=>hbody f cdv A outer s H vs Q E hr h),b,mk,mm⟩
theorem XId.ok (D:XId K mg x C qual st ps)(S:zv N ps (zg st))(len:∀vs H Q E,sp vs H Q E→vs.length=ps.length)
  (hbody:∀(f:Addr) (cdv:Value) (A:Around) (outer:List Env) (s:Shared) (H:Hp) (vs:List V) (Q:VK) (E:XK),Room k (A.deeper (envOfC qual (zg st) s.heap.objs.size f cdv))→sp vs H Q E→
   ∃t,PSs (cxOf CX0 P w K mg base N qual (zg st) f cdv A outer s H E).nox (zY st) t∧t {nx:=fun _ H'=>Q .non H',rt:=Q} (start N vs) H):XI P w K mg base x C (k+1) ps sp:=by
 obtain ⟨c,f,fd,F,b,i,n,mm⟩:=D
 exact ⟨c,f,fd,F.ok S len (fun cdv A outer s H vs Q E hr h=>hbody f cdv A outer s H vs Q E hr h),b,i,n,mm⟩
end
section
variable {X:Cx}{CX:CXT}{x m:Str}{C:Addr}{ps:List Str}{sp:Sp}{k k':Nat}{e o:Expr}{es:List Expr}{ta:TE}{t:TA}{p pos apos:Pos}{E:XK}{ES:St→XK}
theorem zH (F:FnX X.prog X.w X.K X.mg X.base x k ps sp)(hr:Room k' X.A)(hle:k≤k')(hg:Gl X x)(hx:zbH (CX1 X.prog X.w) X E)(ha:PA X (e::es) t)(hd:(x==("__debug__" :Str))=false:=by decide)
  (he:starEach (e::es) X.env=(false,eval e X.env)::starEach es X.env:=by rfl) (hpl:∀pos,(backTo pos (starEach es X.env)).any (·.1)=false:=by intro _;rfl):PE X (.Call (.Name x p) (e::es) [] pos) (ziX sp [] E t):=by
 obtain ⟨f,fd,a,b,kp,m⟩:=F.ex
 exact zhp a (hr.mono hle) hg m kp b .nil hx ha hd he (hpl _)
theorem ziI (F:FnX X.prog X.w X.K X.mg X.base x k ps sp)(hr:Room k' X.A)(hle:k≤k')(hg:Gl X x)(hx:zc8 (CX1 X.prog X.w) X ES)(ha:PA X (e::es) t)(hd:(x==("__debug__" :Str))=false:=by decide)
  (he:starEach (e::es) X.env=(false,eval e X.env)::starEach es X.env:=by rfl) (hpl:∀pos,(backTo pos (starEach es X.env)).any (·.1)=false:=by intro _;rfl):PE X (.Call (.Name x p) (e::es) [] pos) (zil sp ES t):=by
 obtain ⟨f,fd,a,b,kp,m⟩:=F.ex
 exact zjy a (hr.mono hle) hg m kp b hx ha hd he (hpl _)
theorem zbR {pl:Sem Bool}(he:PE X o ta)(c:Cls X.K C)(M:Mt X.prog X.w X.K X.mg X.base CX C m k ps sp)(hr:Room k' X.A)(hle:k≤k')(hx:zbH CX X E)(ha:PA X (e::es) t)
  (hst:starEach (e::es) X.env=(false,eval e X.env)::starEach es X.env:=by rfl) (hpl:∀pos,(backTo pos (starEach es X.env)).any (·.1)=false:=by intro _;rfl)
  (ht:eval (.Call (.Attribute o m apos) (e::es) [] pos) X.env=(do
   let ov←eval o X.env
   standAt apos.atName
   let (f,first) ←holding [ov] (getMethod ov m pl)
   callWith pos f first (backTo pos (starEach (e::es) X.env)) (backToKw pos (keywordEach [] X.env))):=by rfl):
  PE X (.Call (.Attribute o m apos) (e::es) [] pos) (zkZ C m sp [] E ta t):=by
 obtain ⟨f,fd,a,b,me⟩:=M.ex
 exact zkv he c me a (hr.mono hle) b .nil hx ha hst (hpl _) ht
theorem zj4 (M:Mkr X.prog X.w X.K X.mg X.base x C k ps sp)(hr:Room k' X.A)(hle:k+1≤k')(hg:Gl X x)(hd:(x==("__debug__" :Str))=false:=by decide):PE X (.Call (.Name x p) [] [] pos) (zkX C sp [] E0 tNil):=by
 obtain ⟨f,fd,a,b,mk,mm⟩:=M.ex
 exact ziF mk a (hr.mono hle) hg mm b .nil zkY hd
theorem zmo (M:XI X.prog X.w X.K X.mg X.base x C k ps sp)(hr:Room k' X.A)(hle:k+1≤k')(hg:Gl X x)(ha:PA X (e::es) t)(hd:(x==("__debug__" :Str))=false:=by decide)
  (he:starEach (e::es) X.env=(false,eval e X.env)::starEach es X.env:=by rfl) (hpl:∀pos,(backTo pos (starEach es X.env)).any (·.1)=false:=by intro _;rfl):PE X (.Call (.Name x p) (e::es) [] pos) (zk6 C sp t):=by
 obtain ⟨c,f,fd,a,b,i,n,mm⟩:=M
 exact zkI c i n a (hr.mono hle) b hg mm ha hd he (hpl _)
theorem zjE (M:XP X.K X.mg x C)(hg:Gl X x)(ha:PA X (e::es) t)(hd:(x==("__debug__" :Str))=false:=by decide)
  (he:starEach (e::es) X.env=(false,eval e X.env)::starEach es X.env:=by rfl) (hpl:∀pos,(backTo pos (starEach es X.env)).any (·.1)=false:=by intro _;rfl):PE X (.Call (.Name x p) (e::es) [] pos) (tExc C t):=
 zlA M.cl M.ei hg M.mg ha hd he (hpl _)
end
end L2
namespace L2
open PySem PySem.Spec PyProof.Rows
section
variable {P:Program}{W:World}{A:Around}{E:Value→Shared→Prop}{z:Shared}
theorem zeC {j t:Addr}{n:Nat}{us:Array Value}{v:Value}{Q:Value→Shared→Prop}(hj:z.heap.IsTupleIter j t n)(ht:z.heap.IsTuple t us)(hv:us[n]? =some v)
  (q:∀g,g.IsTupleIter j t (n+1)→Heap.SameBut j z.heap g→Q v {z with heap:=g}):wpAny (model P W) A (Builtin.SmallTypes.nextOf (.ref j)) Q E z:=by
 obtain ⟨oj,ej,cj,dj⟩:=id hj;obtain ⟨ot,et,_,nt,dt⟩:=ht;unfold Builtin.SmallTypes.nextOf
 refine wpAny_bind (wpAny_callSpecial?_slot (name:=Str.ofString "__next__") hj.typeIs F.slot_tuple_iterator_next (wpAny_call_entry F.slot_tuple_iterator_next hj.typeIs F.entry_tuple_iterator_next ?_ (F.args_tuple_iterator_next_1 _)))
 show wpAny _ _ (field (.ref j) 0 >>=_) _ _ z;refine wpAny_bind (wpAny_field ej dj (x:=.ref t) rfl ?_)
 show wpAny _ _ (if (Value.ref t==Value.none)=true then _ else _) _ _ z;rw [if_neg (show¬((Value.ref t==Value.none)=true) from Bool.false_ne_true)]
 show wpAny _ _ (field (.ref j) 1 >>=_) _ _ z;refine wpAny_bind (wpAny_field ej dj (x:=.int n 0) rfl ?_)
 show wpAny _ _ (seqItems? (.ref t) >>=_) _ _ z;refine wpAny_bind (wpAny_seqItems et dt ?_);simp only [Int.toNat_natCast,hv]
 refine wpAny_bind (wpAny_setField ej dj (by simp) (wpAny_pure ⟨v,rfl,wpAny_pure (q _ ⟨_,Heap.get?_update_self _ ej (Obj.isFreed_of_fields (Obj.data_mapFields dj _)),(Obj.cls_mapFields ..).trans cj,by rw [Obj.data_mapFields dj];simp [rawInt]⟩ (Heap.SameBut.update ..))⟩))
theorem zf6 {j t:Addr}{n:Nat}{us:Array Value}{Q:Value→Shared→Prop}(hh:A.handled=none)(hj:z.heap.IsTupleIter j t n)(ht:z.heap.IsTuple t us)(hv:us[n]? =none)
  (q:∀g e,Heap.ExtBut j z.heap g→(∃o,g.get? e=some o∧o.cls=.type "StopIteration")→E (.ref e) {z with heap:=g}):wpAny (model P W) A (Builtin.SmallTypes.nextOf (.ref j)) Q E z:=by
 obtain ⟨oj,ej,cj,dj⟩:=id hj;obtain ⟨ot,et,_,nt,dt⟩:=ht;unfold Builtin.SmallTypes.nextOf
 refine wpAny_bind (wpAny_callSpecial?_slot (name:=Str.ofString "__next__") hj.typeIs F.slot_tuple_iterator_next (wpAny_call_entry F.slot_tuple_iterator_next hj.typeIs F.entry_tuple_iterator_next ?_ (F.args_tuple_iterator_next_1 _)))
 show wpAny _ _ (field (.ref j) 0 >>=_) _ _ z;refine wpAny_bind (wpAny_field ej dj (x:=.ref t) rfl ?_)
 show wpAny _ _ (if (Value.ref t==Value.none)=true then _ else _) _ _ z;rw [if_neg (show¬((Value.ref t==Value.none)=true) from Bool.false_ne_true)]
 show wpAny _ _ (field (.ref j) 1 >>=_) _ _ z;refine wpAny_bind (wpAny_field ej dj (x:=.int n 0) rfl ?_)
 show wpAny _ _ (seqItems? (.ref t) >>=_) _ _ z;refine wpAny_bind (wpAny_seqItems et dt ?_);simp only [Int.toNat_natCast,hv]
 refine wpAny_bind (wpAny_rule (wpAny_bind (wpAny_setField ej dj (by simp) ?_)));show wpAny _ _ (newExc (.type "StopIteration") [] >>=_) _ _ _;refine wpAny_bind ?_;simp only [newExc,newTuple]
 refine wpAny_bind (wpAny_newObj_type ?_ (by size_fits));refine wpAny_bind (m:=firstArgMember _ _) (wpAny_of_eq (a:=Value.none) (by first | rfl | (simp only [firstArgMember];rfl)) ?_);refine wpAny_newObj_type ?_ (by size_fits);simp only [raiseNew]
 refine wpAny_bind (wpAny_handled ?_);first | rw [show A.in1.handled=none from hh] | rw [hh]
 refine wpAny_bind (wpAny_pure (wpAny_throw ?_));exact q _ _ (((Heap.SameBut.update ..).extBut.push _).push _) ⟨_,Heap.get?_push_size _ rfl,rfl⟩
structure ZSt (g:Heap)(y a o i k p q:Addr)(n:Nat)(xs us:Array Value)(f:Value):Prop where
 zp:IsZip g y a o f
 its:IsPair g a (.ref i) (.ref k)
 own:∃b c,IsPair g o b c
 i1:g.IsTupleIter i p n
 i2:g.IsTupleIter k q n
 t1:g.IsTuple p xs
 t2:g.IsTuple q us
theorem zjM {y a o i k p q:Addr}{n:Nat}{xs us:Array Value}{u v:Value}{Q:Option Value→Shared→Prop}(D:ZipApart y a o i k p q)(S:ZSt z.heap y a o i k p q n xs us .none)(hu:xs[n]? =some u)(hv:us[n]? =some v)
  (fin:∀g,ZSt g y a o i k p q (n+1) xs us (rawInt z.heap.objs.size)→IsPair g z.heap.objs.size u v→g.objs.size=z.heap.objs.size+1→(∀c r,c≠y→c≠o→c≠i→c≠k→z.heap.get? c=some r→g.get? c=some r)→Q (some (.ref z.heap.objs.size)) {z with heap:=g}):
  wpAny (model P W) A (pyNext (.ref y)) Q E z:=by
 obtain ⟨hz,ha,⟨b,c,ho⟩,hi,hk,hp,hq⟩:=S
 have tz:z.TypeIs (.ref y) "zip" :=⟨_,hz,rfl⟩
 have main:wpAny (model P W) A.in1 (Builtin.«zip.__next__» ⟨[.ref y],[]⟩) (fun r s'=>∃v,r=.done (.ret v)∧Q (some v) s') (fun e s'=>True∧False) z:=by
  show wpAny _ _ (field (.ref y) 2 >>=_) _ _ _;refine wpAny_bind (wpAny_field hz rfl (x:=.bool false) rfl ?_)
  show wpAny _ _ (field (.ref y) 3 >>=_) _ _ _;refine wpAny_bind (wpAny_field hz rfl (x:=.ref a) rfl ?_);refine wpAny_bind (wpAny_seqItems ha rfl ?_)
  show wpAny _ _ (Builtin.SmallTypes.ownedTupleIsFree (.ref y) >>=_) _ _ _;refine wpAny_bind ?_;unfold Builtin.SmallTypes.ownedTupleIsFree
  refine wpAny_bind (wpAny_field hz rfl (x:=.none) rfl (wpAny_pure ?_));simp only [if_true];refine wpAny_bind (wpAny_rule ?_);refine wpAny_bind (wpAny_field hz rfl (x:=.ref o) rfl ?_)
  refine wpAny_bind (wpAny_setField_rec hz (by simp) fun g1 hz1 s1=>?_);replace hz1:IsZip g1 y a o .ellipsis:=hz1;refine wpAny_bind ?_;simp only [List.zipIdx_cons,List.zipIdx_nil,List.forIn_cons,List.forIn_nil]
  refine wpAny_bind (wpAny_bind (wpAny_onRaise ?_));show wpAny _ _ (Builtin.SmallTypes.nextOf (.ref i) >>=_) _ _ _
  refine wpAny_bind (zeC (hi.extBut s1.extBut D.i1z) (hp.extBut s1.extBut D.l1z) hu fun g2 i2 s2=>wpAny_pure ?_)
  have ho2:IsPair g2 o b c:=s2.extBut _ _ D.TOi1 (s1.extBut _ _ D.TOz ho)
  refine wpAny_bind (wpAny_seqItems ho2 rfl ?_);refine wpAny_bind (wpAny_updateSeq_pair ho2 fun g3 ho3 s3=>?_);replace ho3:IsPair g3 o u c:=ho3;refine wpAny_bind (wpAny_letGo (wpAny_pure ?_))
  refine wpAny_bind (wpAny_bind (wpAny_onRaise ?_));show wpAny _ _ (Builtin.SmallTypes.nextOf (.ref k) >>=_) _ _ _
  refine wpAny_bind (zeC (((hk.extBut s1.extBut D.i2z).extBut s2.extBut D.i12.symm).extBut s3.extBut D.TOi2.symm) (((hq.extBut s1.extBut D.l2z).extBut s2.extBut D.l2i1).extBut s3.extBut D.l2TO) hv fun g4 k4 s4=>wpAny_pure ?_)
  have ho4:IsPair g4 o u c:=s4.extBut _ _ D.TOi2 ho3
  refine wpAny_bind (wpAny_seqItems ho4 rfl ?_);refine wpAny_bind (wpAny_updateSeq_pair ho4 fun g5 ho5 s5=>?_);replace ho5:IsPair g5 o u v:=ho5;refine wpAny_bind (wpAny_letGo (wpAny_pure (wpAny_pure ?_)))
  refine wpAny_bind (wpAny_seqItems ho5 rfl ?_);refine wpAny_bind (wpAny_newTuple ?_)
  have sz:g5.objs.size=z.heap.objs.size:=by rw [s5.1,s4.1,s3.1,s2.1,s1.1]
  have hz5:IsZip g5 y a o .ellipsis:=s5.extBut _ _ D.TOz.symm (s4.extBut _ _ D.i2z.symm (s3.extBut _ _ D.TOz.symm (s2.extBut _ _ D.i1z.symm hz1)))
  have up5:∀c r,c≠y→c≠o→c≠i→c≠k→z.heap.get? c=some r→g5.get? c=some r:=fun c r c1 c2 c3 c4 e=>s5.extBut _ _ c2 (s4.extBut _ _ c4 (s3.extBut _ _ c2 (s2.extBut _ _ c3 (s1.extBut _ _ c1 e))))
  have hi5:g5.IsTupleIter i p (n+1):=((i2.extBut s3.extBut D.TOi1.symm).extBut s4.extBut D.i12).extBut s5.extBut D.TOi1.symm
  have hk5:g5.IsTupleIter k q (n+1):=k4.extBut s5.extBut D.TOi2.symm
  have ly:y < g5.objs.size:=Heap.lt_size hz5
  show wpAny _ _ (Builtin.SmallTypes.ownedTupleHandOut (.ref y) (.ref g5.objs.size) >>=_) _ _ _;refine wpAny_bind ?_;unfold Builtin.SmallTypes.ownedTupleHandOut
  have hz6:IsZip (g5.push {cls:=.type "tuple",data:=.seq #[u,v]}) y a o .ellipsis:=Heap.get?_push_of_some _ hz5
  refine wpAny_bind (wpAny_setField_rec hz6 (by simp) fun g7 hz7 s7=>?_);replace hz7:IsZip g7 y a o (rawInt g5.objs.size):=hz7
  refine wpAny_setField_rec hz7 (by simp) fun g8 hz8 s8=>?_;replace hz8:IsZip g8 y a o (rawInt g5.objs.size):=hz8
  have up:∀c r,c≠y→g5.get? c=some r→g8.get? c=some r:=fun c r c1 e=>s8.extBut _ _ c1 (s7.extBut _ _ c1 (Heap.get?_push_of_some _ e))
  have new8:IsPair g8 g5.objs.size u v:=s8.extBut _ _ (Nat.ne_of_gt ly) (s7.extBut _ _ (Nat.ne_of_gt ly) (Heap.get?_push_size _ rfl))
  have sz8:g8.objs.size=g5.objs.size+1:=by rw [s8.1,s7.1,Heap.size_push]
  rw [sz] at hz8 new8 sz8
  refine wpAny_pure ⟨_,rfl,?_⟩;show Q (some (.ref g5.objs.size)) _;rw [sz]
  have upz:∀c r,c≠y→c≠o→c≠i→c≠k→z.heap.get? c=some r→g8.get? c=some r:=fun c r c1 c2 c3 c4 e=>up c r c1 (up5 c r c1 c2 c3 c4 e)
  refine fin g8 ⟨hz8,upz _ _ D.TIz D.TITO D.TIi1 D.TIi2 ha,⟨_,_,up _ _ D.TOz ho5⟩,?_,?_,?_,?_⟩ new8 sz8 upz
  ·obtain ⟨r,e,x⟩:=hi5;exact ⟨r,up _ r D.i1z e,x⟩
  ·obtain ⟨r,e,x⟩:=hk5;exact ⟨r,up _ r D.i2z e,x⟩
  ·obtain ⟨r,e,x⟩:=hp;exact ⟨r,upz _ r D.l1z D.l1TO D.l1i1 D.l1i2 e,x⟩
  ·obtain ⟨r,e,x⟩:=hq;exact ⟨r,upz _ r D.l2z D.l2TO D.l2i1 D.l2i2 e,x⟩
 unfold pyNext
 exact wpAny_bind (wpAny_attempt (wpAny_callSpecial?_slot (name:=Str.ofString "__next__") tz F.slot_zip_next (wpAny_call_entry F.slot_zip_next tz F.entry_zip_next (wpAny_mono main (fun r s' ⟨v,e,h⟩=>⟨v,e,wpAny_pure h⟩) fun _ _ x=>x.2.elim) (F.args_zip_next_1 _))))
theorem zjF {y a o i k p q:Addr}{n:Nat}{xs us:Array Value}{Q:Option Value→Shared→Prop}(hh:A.handled=none)(D:ZipApart y a o i k p q)(S:ZSt z.heap y a o i k p q n xs us .none)(he:xs[n]? =none∨us[n]? =none)
  (fin:∀g,(∀c r,c≠y→c≠o→c≠i→c≠k→z.heap.get? c=some r→g.get? c=some r)→Q none {z with heap:=g}):wpAny (model P W) A (pyNext (.ref y)) Q E z:=by
 obtain ⟨hz,ha,⟨b,c,ho⟩,hi,hk,hp,hq⟩:=S
 have tz:z.TypeIs (.ref y) "zip" :=⟨_,hz,rfl⟩
 have main:wpAny (model P W) A.in1 (Builtin.«zip.__next__» ⟨[.ref y],[]⟩) (fun _ _=>False) (fun e s'=>∃g x,e=.ref x∧s'={z with heap:=g}∧(∀c r,c≠y→c≠o→c≠i→c≠k→z.heap.get? c=some r→g.get? c=some r)∧∃r,g.get? x=some r∧r.cls=.type "StopIteration") z:=by
  show wpAny _ _ (field (.ref y) 2 >>=_) _ _ _;refine wpAny_bind (wpAny_field hz rfl (x:=.bool false) rfl ?_)
  show wpAny _ _ (field (.ref y) 3 >>=_) _ _ _;refine wpAny_bind (wpAny_field hz rfl (x:=.ref a) rfl ?_);refine wpAny_bind (wpAny_seqItems ha rfl ?_)
  show wpAny _ _ (Builtin.SmallTypes.ownedTupleIsFree (.ref y) >>=_) _ _ _;refine wpAny_bind ?_;unfold Builtin.SmallTypes.ownedTupleIsFree
  refine wpAny_bind (wpAny_field hz rfl (x:=.none) rfl (wpAny_pure ?_));simp only [if_true];refine wpAny_bind (wpAny_rule ?_);refine wpAny_bind (wpAny_field hz rfl (x:=.ref o) rfl ?_)
  refine wpAny_bind (wpAny_setField_rec hz (by simp) fun g1 hz1 s1=>?_);replace hz1:IsZip g1 y a o .ellipsis:=hz1;refine wpAny_bind ?_;simp only [List.zipIdx_cons,List.zipIdx_nil,List.forIn_cons,List.forIn_nil]
  refine wpAny_bind (wpAny_bind (wpAny_onRaise ?_));show wpAny _ _ (Builtin.SmallTypes.nextOf (.ref i) >>=_) _ _ _
  cases hu:xs[n]? with
  | none=>
   refine wpAny_bind (zf6 (A:=A.in1) (show A.in1.handled=none from hh) (hi.extBut s1.extBut D.i1z) (hp.extBut s1.extBut D.l1z) hu fun g2 e s2 he2=>?_)
   obtain ⟨r,er,cr⟩:=he2
   have hz2:IsZip g2 y a o .ellipsis:=s2 _ _ D.i1z.symm hz1
   have ne:e≠y:=fun x=>by subst x;rw [hz2] at er;cases er;simp at cr
   exact wpAny_setField_rec hz2 (by simp) fun g3 _ s3=>⟨g3,e,rfl,rfl,fun c r c1 _ c3 _ x=>s3.extBut _ _ c1 (s2 _ _ c3 (s1.extBut _ _ c1 x)),r,s3.extBut _ _ ne er,cr⟩
  | some u=>
   have hv:us[n]? =none:=he.elim (fun z=>by rw [hu] at z;cases z) id
   refine wpAny_bind (zeC (hi.extBut s1.extBut D.i1z) (hp.extBut s1.extBut D.l1z) hu fun g2 i2 s2=>wpAny_pure ?_)
   have ho2:IsPair g2 o b c:=s2.extBut _ _ D.TOi1 (s1.extBut _ _ D.TOz ho)
   refine wpAny_bind (wpAny_seqItems ho2 rfl ?_);refine wpAny_bind (wpAny_updateSeq_pair ho2 fun g3 ho3 s3=>?_);refine wpAny_bind (wpAny_letGo (wpAny_pure ?_))
   refine wpAny_bind (wpAny_bind (wpAny_onRaise ?_));show wpAny _ _ (Builtin.SmallTypes.nextOf (.ref k) >>=_) _ _ _
   refine wpAny_bind (zf6 (A:=A.in1) (show A.in1.handled=none from hh) (((hk.extBut s1.extBut D.i2z).extBut s2.extBut D.i12.symm).extBut s3.extBut D.TOi2.symm) (((hq.extBut s1.extBut D.l2z).extBut s2.extBut D.l2i1).extBut s3.extBut D.l2TO) hv fun g4 e s4 he4=>?_)
   obtain ⟨r,er,cr⟩:=he4
   have hz4:IsZip g4 y a o .ellipsis:=s4 _ _ D.i2z.symm (s3.extBut _ _ D.TOz.symm (s2.extBut _ _ D.i1z.symm hz1))
   have ne:e≠y:=fun x=>by subst x;rw [hz4] at er;cases er;simp at cr
   exact wpAny_setField_rec hz4 (by simp) fun g5 _ s5=>⟨g5,e,rfl,rfl,fun c r c1 c2 c3 c4 x=>s5.extBut _ _ c1 (s4 _ _ c4 (s3.extBut _ _ c2 (s2.extBut _ _ c3 (s1.extBut _ _ c1 x)))),r,s5.extBut _ _ ne er,cr⟩
 unfold pyNext
 refine wpAny_bind (wpAny_attempt (wpAny_callSpecial?_slot (name:=Str.ofString "__next__") tz F.slot_zip_next (wpAny_call_entry F.slot_zip_next tz F.entry_zip_next (wpAny_mono main (fun _ _ x=>x.elim) fun e s' h=>?_) (F.args_zip_next_1 _))))
 obtain ⟨g,x,rfl,rfl,up,r,er,cr⟩:=h
 exact wpAny_bind (wpAny_isInstance (T:= "StopIteration") (b:=true) ⟨r,er,cr⟩ isSubtype_stop (wpAny_pure (fin _ up)))
abbrev tz1 (g:Heap)(p:Addr):Heap:=g.push {cls:=.type "tuple_iterator",data:=.fields #[.ref p,.int 0 0]}
abbrev tz2 (g:Heap)(p q:Addr):Heap:=(tz1 g p).push {cls:=.type "tuple_iterator",data:=.fields #[.ref q,.int 0 0]}
abbrev tz3 (g:Heap)(p q:Addr):Heap:=(tz2 g p q).push {cls:=.type "tuple",data:=.seq #[.ref g.objs.size,.ref (tz1 g p).objs.size]}
abbrev tz4 (g:Heap)(p q:Addr):Heap:=(tz3 g p q).push {cls:=.type "tuple",data:=.seq #[.none,.none]}
abbrev tz5 (g:Heap)(p q:Addr):Heap:=(tz4 g p q).push {cls:=.type "zip",data:=.fields #[.none,.bool false,.bool false,.ref (tz2 g p q).objs.size,.ref (tz3 g p q).objs.size]}
theorem zjN {p q:Addr}{xs us:Array Value}{Q:Value→Shared→Prop}(hp:z.heap.IsTuple p xs)(hq:z.heap.IsTuple q us)
  (fin:∀g,ZSt g (z.heap.objs.size+4) (z.heap.objs.size+2) (z.heap.objs.size+3) z.heap.objs.size (z.heap.objs.size+1) p q 0 xs us .none→g.objs.size=z.heap.objs.size+5→(∀c r,z.heap.get? c=some r→g.get? c=some r)→Q (.ref (z.heap.objs.size+4)) {z with heap:=g}):
  wpAny (model P W) A (call (.type "zip") [.ref p,.ref q]) Q E z:=by
 have M:Meets (Builtin.«zip.__new__» ⟨[.type "zip",.ref p,.ref q],[]⟩) (fun _ R s=>s.heap.IsTuple p xs∧s.heap.IsTuple q us∧R (.ok (.ret (.ref (tz4 s.heap p q).objs.size))) {s with heap:=tz5 s.heap p q}):=
  .of_wp fun prog w A R s h=>by
   obtain ⟨hp0,g,d,tk,os⟩:=s;obtain ⟨h1,h2,h⟩:=h
   have hsub:=sub_zip
   have L1:Heap.IsTuple (Shared.heap ⟨hp0,g,d,tk,os⟩) p xs:=h1
   have L2:Heap.IsTuple (Shared.heap ⟨hp0.push {cls:=.type "tuple_iterator",data:=.fields #[.ref p,.int 0 0]},g,d,tk,os⟩) q us:=by
    obtain ⟨r,e,x⟩:=h2;exact ⟨r,Heap.get?_push_of_some _ e,x⟩
   wp_walk using wpAny_pyIter_tuple L1,wpAny_pyIter_tuple L2
   exact ⟨_,rfl,h⟩
 have n1:(tz1 z.heap p).objs.size=z.heap.objs.size+1:=Heap.size_push ..
 have n2:(tz2 z.heap p q).objs.size=z.heap.objs.size+2:=by rw [Heap.size_push,n1]
 have n3:(tz3 z.heap p q).objs.size=z.heap.objs.size+3:=by rw [Heap.size_push,n2]
 have n4:(tz4 z.heap p q).objs.size=z.heap.objs.size+4:=by rw [Heap.size_push,n3]
 have n5:(tz5 z.heap p q).objs.size=z.heap.objs.size+5:=by rw [Heap.size_push,n4]
 have a5:(tz5 z.heap p q).get? (tz4 z.heap p q).objs.size=some _:=Heap.get?_push_size _ rfl
 have a4:(tz5 z.heap p q).get? (tz3 z.heap p q).objs.size=some _:=Heap.get?_push_of_some _ (Heap.get?_push_size _ rfl)
 have a3:(tz5 z.heap p q).get? (tz2 z.heap p q).objs.size=some _:=Heap.get?_push_of_some _ (Heap.get?_push_of_some _ (Heap.get?_push_size _ rfl))
 have a2:(tz5 z.heap p q).get? (tz1 z.heap p).objs.size=some _:=Heap.get?_push_of_some _ (Heap.get?_push_of_some _ (Heap.get?_push_of_some _ (Heap.get?_push_size _ rfl)))
 have a1:(tz5 z.heap p q).get? z.heap.objs.size=some _:=Heap.get?_push_of_some _ (Heap.get?_push_of_some _ (Heap.get?_push_of_some _ (Heap.get?_push_of_some _ (Heap.get?_push_size _ rfl))))
 have up:∀c r,z.heap.get? c=some r→(tz5 z.heap p q).get? c=some r:=fun c r x=>Heap.get?_push_of_some _ (Heap.get?_push_of_some _ (Heap.get?_push_of_some _ (Heap.get?_push_of_some _ (Heap.get?_push_of_some _ x))))
 rw [n2,n3,n4] at a5
 rw [n1,n2] at a3
 rw [n3] at a4
 rw [n1] at a2
 refine callType_new F.called_zip (by decide) (F.typeCall_zip_2 _ _) (F.newCall_zip_2 _ _) (fun obj=>F.args_object_init_3 obj _ _) F.entry_zip_new M ⟨hp,hq,?_⟩
 show _∧_
 rw [n4]
 refine ⟨⟨_,a5,rfl⟩,fin _ ⟨a5,a3,⟨_,_,a4⟩,⟨_,a1,rfl,rfl⟩,⟨_,a2,rfl,rfl⟩,?_,?_⟩ n5 up⟩
 ·obtain ⟨r,e,x⟩:=hp;exact ⟨r,up _ _ e,x⟩
 ·obtain ⟨r,e,x⟩:=hq;exact ⟨r,up _ _ e,x⟩
end
structure ZI (g:Heap)(y a o i k p q:Addr)(n:Nat)(f:Value):Prop where
 zp:IsZip g y a o f
 its:IsPair g a (.ref i) (.ref k)
 own:∃b c,IsPair g o b c
 i1:g.IsTupleIter i p n
 i2:g.IsTupleIter k q n
theorem ZSt.zi {g:Heap}{y a o i k p q:Addr}{n:Nat}{xs us:Array Value}{f:Value}(S:ZSt g y a o i k p q n xs us f):ZI g y a o i k p q n f:=⟨S.zp,S.its,S.own,S.i1,S.i2⟩
def Itz (K:PySem.W.Frag)(p q:Addr)(xs us:List V):It:=
 ⟨fun n H=>SqT K H p xs∧SqT K H q us∧n < min xs.length us.length,fun n H v H'=>∃(T:Addr) (x u:V),H T=none∧xs[n]? =some x∧us[n]? =some u∧v=.ref T∧H'=upd H T (.tup [x,u]),fun n H=>SqT K H p xs∧SqT K H q us∧min xs.length us.length≤n⟩
theorem ziv {P:Program}{w:World}{K:PySem.W.Frag}{elts:List Expr}{x1:Nat}{tpos:Pos}{y a o i k p q:Addr}{xs us:List V}(D:ZipApart y a o i k p q):
  Turn P w K (.Tuple elts x1 tpos) (Itz K p q xs us) [y,a,o,i,k] y (fun n h=>ZI h y a o i k p q n .none) where
 mem:=by simp
 obj:=fun n h st b hb=>by
  obtain ⟨hz,ha,⟨b1,b2,ho⟩,⟨r1,e1,_,d1⟩,⟨r2,e2,_,d2⟩⟩:=st
  simp only [List.mem_cons,List.not_mem_nil,or_false] at hb
  rcases hb with rfl | rfl | rfl | rfl | rfl
  ·exact ⟨_,hz,fun v z=>by cases z⟩
  ·exact ⟨_,ha,fun v z=>by cases z⟩
  ·exact ⟨_,ho,fun v z=>by cases z⟩
  ·exact ⟨_,e1,fun v z=>by rw [d1] at z;cases z⟩
  ·exact ⟨_,e2,fun v z=>by rw [d2] at z;cases z⟩
 keep:=fun n h h' st kp=>by
  obtain ⟨hz,ha,⟨b1,b2,ho⟩,⟨r1,e1,x1⟩,⟨r2,e2,x2⟩⟩:=st
  exact ⟨kp y (by simp) _ hz,kp a (by simp) _ ha,⟨b1,b2,kp o (by simp) _ ho⟩,⟨r1,kp i (by simp) _ e1,x1⟩,⟨r2,kp k (by simp) _ e2,x2⟩⟩
 item:=by
  intro X hP hw hK hc n pins s σ H E I hf st hg
  subst hP hw hK
  obtain ⟨hp,hq,hn⟩:=hg
  obtain ⟨its,r1,T1,z1⟩:=I.tuple hp
  obtain ⟨jts,r2,T2,z2⟩:=I.tuple hq
  have hx:xs[n]? =some xs[n]:=List.getElem?_eq_getElem (by omega)
  have hu:us[n]? =some us[n]:=List.getElem?_eq_getElem (by omega)
  obtain ⟨v1,e1,q1⟩:=r1.get hx
  obtain ⟨v2,e2,q2⟩:=r2.get hu
  have fy:=hf y (by simp)
  have fa:=hf a (by simp)
  have fo:=hf o (by simp)
  have fi:=hf i (by simp)
  have fk:=hf k (by simp)
  have S:ZSt s.heap y a o i k p q n its.toArray jts.toArray .none:=⟨st.zp,st.its,st.own,st.i1,st.i2,T1,T2⟩
  refine zjM D S (u:=v1) (v:=v2) (by simpa using e1) (by simpa using e2) fun g Sg new sz up=>?_
  have hT:H s.heap.objs.size=none:=I.hok.fresh (Nat.le_refl _)
  have inch:∀{b:Addr},H b≠none→b≠y∧b≠o∧b≠i∧b≠k:=fun {b} h=>⟨fun z=>h (by rw [z];exact fy.1),fun z=>h (by rw [z];exact fo.1),fun z=>h (by rw [z];exact fi.1),fun z=>h (by rw [z];exact fk.1)⟩
  have hok:HOk X.prog X.w (upd H s.heap.objs.size (.tup [xs[n],us[n]])) g:=fun b u e=>by
   by_cases hb:b=s.heap.objs.size
   ·subst hb
    rw [zf] at e
    cases e
    refine ⟨by simp only [List.length_cons,List.length_nil];rw [sizeLine_eq];decide,[v1,v2],.cons q1 (.cons q2 .nil),⟨_,new,rfl,_,rfl⟩⟩
   ·rw [zq hb] at e
    refine (I.hok b u e).stay (fun c r hc q=>?_) (fun c q=>by rw [zq (zr q hT)];exact q) fun c ys q=>by rw [zq (zr q hT)];exact q
    have hne:H c≠none:=by
     rcases hc with rfl | hc
     ·rw [e];intro z;cases z
     ·rw [hc];intro z;cases z
    obtain ⟨c1,c2,c3,c4⟩:=inch hne
    exact up c r c1 c2 c3 c4 q
  have I1:Inv X pins σ (upd H s.heap.objs.size (.tup [xs[n],us[n]])) {s with heap:=g}:=by
   refine I.step (g':=s.gens) (d':=s.drawn) (t':=s.toks) (ch:=[y,o,i,k]) (fun b hb=>?_) (fun b r _ _ hc e _=>?_) (fun b r _ _ hc e _=>⟨r.slots,?_⟩) (fun b r hc e hn=>?_) (fun b r hc e=>⟨r,?_⟩) (fun b ys e=>by rw [zq (zr e hT)];exact e)
    (fun b r ys e=>by rw [zq (zr e hT)];exact e) (fun b ps e=>⟨#[],by rw [zq (zr e hT),e];simp⟩) (fun m hm=>?_) hok I.bare
   ·simp only [List.mem_cons,List.not_mem_nil,or_false] at hb
    rcases hb with rfl | rfl | rfl | rfl
    ·exact ⟨fy.2.2.2.1,fy.2.1,fy.2.2.2.2.1,fy.2.2.2.2.2⟩
    ·exact ⟨fo.2.2.2.1,fo.2.1,fo.2.2.2.2.1,fo.2.2.2.2.2⟩
    ·exact ⟨fi.2.2.2.1,fi.2.1,fi.2.2.2.2.1,fi.2.2.2.2.2⟩
    ·exact ⟨fk.2.2.2.1,fk.2.1,fk.2.2.2.2.1,fk.2.2.2.2.2⟩
   ·simp only [List.mem_cons,List.not_mem_nil,or_false,not_or] at hc
    exact up b r hc.1 hc.2.1 hc.2.2.1 hc.2.2.2 e
   ·simp only [List.mem_cons,List.not_mem_nil,or_false,not_or] at hc
    exact up b r hc.1 hc.2.1 hc.2.2.1 hc.2.2.2 e
   ·rw [zq (Nat.ne_of_lt (Heap.lt_size e))];exact hn
   ·simp only [List.mem_cons,List.not_mem_nil,or_false,not_or] at hc
    exact up b r hc.1 hc.2.1 hc.2.2.1 hc.2.2.2 e
   ·obtain ⟨r,es,ep,er,d⟩:=hm
    exact ⟨r,es,ep,up _ r (Ne.symm fy.2.1) (Ne.symm fo.2.1) (Ne.symm fi.2.1) (Ne.symm fk.2.1) er,d⟩
  have hfp:∀b∈ [y,a,o,i,k],upd H s.heap.objs.size (.tup [xs[n],us[n]]) b=none:=fun b hb=>by
   have fb:=hf b hb
   have lt:b < s.heap.objs.size:=by
    obtain ⟨hz,ha,⟨b1,b2,ho⟩,⟨r1,e1,_⟩,⟨r2,e2,_⟩⟩:=st
    simp only [List.mem_cons,List.not_mem_nil,or_false] at hb
    rcases hb with rfl | rfl | rfl | rfl | rfl
    ·exact Heap.lt_size hz
    ·exact Heap.lt_size ha
    ·exact Heap.lt_size ho
    ·exact Heap.lt_size e1
    ·exact Heap.lt_size e2
   rw [zq (Nat.ne_of_lt lt)];exact fb.1
  refine ⟨_,rfl,wpAny_letOwnedTupleGo_zip Sg.zp fun g2 hz2 s2=>?_⟩
  refine ⟨.ref s.heap.objs.size,_,I1.turned (it:=y) (t':=s.toks) (fun b r hb e=>s2.extBut _ _ hb e) (hfp y (by simp)) fy.2.1 fy.2.2.2.1 fy.2.2.2.2.1 fy.2.2.2.2.2,rfl,⟨_,_,_,hT,hx,hu,rfl,rfl⟩,⟨hz2,s2.extBut _ _ D.TIz Sg.its,?_,Sg.i1.extBut s2.extBut D.i1z,Sg.i2.extBut s2.extBut D.i2z⟩,hfp⟩
  obtain ⟨b1,b2,ho⟩:=Sg.own
  exact ⟨b1,b2,s2.extBut _ _ D.TOz ho⟩
 done:=by
  intro X hP hw hK hc n pins s σ H E I hf st hg
  subst hP hw hK
  obtain ⟨hp,hq,hn⟩:=hg
  obtain ⟨its,r1,T1,z1⟩:=I.tuple hp
  obtain ⟨jts,r2,T2,z2⟩:=I.tuple hq
  have fy:=hf y (by simp)
  have fo:=hf o (by simp)
  have fi:=hf i (by simp)
  have fk:=hf k (by simp)
  have S:ZSt s.heap y a o i k p q n its.toArray jts.toArray .none:=⟨st.zp,st.its,st.own,st.i1,st.i2,T1,T2⟩
  have l1:=r1.length
  have l2:=r2.length
  have he:its.toArray[n]? =none∨jts.toArray[n]? =none:=by
   by_cases h:xs.length≤n
   ·exact .inl (by simp;omega)
   ·exact .inr (by simp;omega)
  refine zjF (I.ok.hd hc) D S he fun g up=>⟨rfl,?_⟩
  have inch:∀{b:Addr},H b≠none→b≠y∧b≠o∧b≠i∧b≠k:=fun {b} h=>⟨fun z=>h (by rw [z];exact fy.1),fun z=>h (by rw [z];exact fo.1),fun z=>h (by rw [z];exact fi.1),fun z=>h (by rw [z];exact fk.1)⟩
  refine I.step (g':=s.gens) (d':=s.drawn) (t':=s.toks) (ch:=[y,o,i,k]) (fun b hb=>?_) (fun b r _ _ hc e _=>?_) (fun b r _ _ hc e _=>⟨r.slots,?_⟩) (fun b r hc e hn=>hn) (fun b r hc e=>⟨r,?_⟩) (fun b ys e=>e) (fun b r ys e=>e) (fun b ps e=>⟨#[],by rw [e];simp⟩) (fun m hm=>?_) (fun b u e=>?_) I.bare
  ·simp only [List.mem_cons,List.not_mem_nil,or_false] at hb
   rcases hb with rfl | rfl | rfl | rfl
   ·exact ⟨fy.2.2.2.1,fy.2.1,fy.2.2.2.2.1,fy.2.2.2.2.2⟩
   ·exact ⟨fo.2.2.2.1,fo.2.1,fo.2.2.2.2.1,fo.2.2.2.2.2⟩
   ·exact ⟨fi.2.2.2.1,fi.2.1,fi.2.2.2.2.1,fi.2.2.2.2.2⟩
   ·exact ⟨fk.2.2.2.1,fk.2.1,fk.2.2.2.2.1,fk.2.2.2.2.2⟩
  ·simp only [List.mem_cons,List.not_mem_nil,or_false,not_or] at hc
   exact up b r hc.1 hc.2.1 hc.2.2.1 hc.2.2.2 e
  ·simp only [List.mem_cons,List.not_mem_nil,or_false,not_or] at hc
   exact up b r hc.1 hc.2.1 hc.2.2.1 hc.2.2.2 e
  ·simp only [List.mem_cons,List.not_mem_nil,or_false,not_or] at hc
   exact up b r hc.1 hc.2.1 hc.2.2.1 hc.2.2.2 e
  ·obtain ⟨r,es,ep,er,d⟩:=hm
   exact ⟨r,es,ep,up _ r (Ne.symm fy.2.1) (Ne.symm fo.2.1) (Ne.symm fi.2.1) (Ne.symm fk.2.1) er,d⟩
  ·refine (I.hok b u e).stay (fun c r hc q=>?_) (fun _ q=>q) fun _ _ q=>q
   have hne:H c≠none:=by
    rcases hc with rfl | hc
    ·rw [e];intro z;cases z
    ·rw [hc];intro z;cases z
   obtain ⟨c1,c2,c3,c4⟩:=inch hne
   exact up c r c1 c2 c3 c4 q
 self:=fun _ _ _ _ _ st h=>wpAny_pyIter_zip st.zp h
theorem zlr (n p q:Nat)(h1:p < n)(h2:q < n):ZipApart (n+4) (n+2) (n+3) n (n+1) p q where
 TIz:=show (n+2:Nat)≠n+4 by omega
 TOz:=show (n+3:Nat)≠n+4 by omega
 i1z:=show (n:Nat)≠n+4 by omega
 i2z:=show (n+1:Nat)≠n+4 by omega
 TITO:=show (n+2:Nat)≠n+3 by omega
 TIi1:=show (n+2:Nat)≠n by omega
 TIi2:=show (n+2:Nat)≠n+1 by omega
 TOi1:=show (n+3:Nat)≠n by omega
 TOi2:=show (n+3:Nat)≠n+1 by omega
 i12:=show (n:Nat)≠n+1 by omega
 l1z:=show (p:Nat)≠n+4 by omega
 l1TO:=show (p:Nat)≠n+3 by omega
 l1i1:=show (p:Nat)≠n by omega
 l1i2:=show (p:Nat)≠n+1 by omega
 l2z:=show (q:Nat)≠n+4 by omega
 l2TO:=show (q:Nat)≠n+3 by omega
 l2i1:=show (q:Nat)≠n by omega
 l2i2:=show (q:Nat)≠n+1 by omega
section
variable {X:Cx}
def iZip (K:PySem.W.Frag)(ta:TA):TI:=fun σ H R=>ta σ H fun vs H1=>∃(p q:Addr) (xs us:List V),vs=[.ref p,.ref q]∧SqT K H1 p xs∧SqT K H1 q us∧R (Itz K p q xs us) H1
theorem zlT {elts:List Expr}{x1:Nat}{tpos:Pos}{a b:Expr}{ta:TA}{p pos:Pos}(hg:Gl X "zip") (hm:X.mg "zip" =none) (ha:PA X [a,b] ta) (hs:starEach [a,b] X.env=[(false,eval a X.env),(false,eval b X.env)]:=by rfl) (hs2:starEach [b] X.env=[(false,eval b X.env)]:=by rfl):
  PI X (.Tuple elts x1 tpos) (.Call (.Name "zip" p) [a,b] [] pos) (iZip X.K ta):=by
 intro pins s σ H R I h
 refine Call_ (zc2 I hg hm (u:=.type "zip") (by rfl) (PyProof.Rows.callWith_type1 (thn (ha pos pins s σ H _ I h) fun us s1 ⟨vs,H1,I1,r1,q1⟩=>?_) (by rw [hs,hs2]) (by rw [hs2];rfl)))
 obtain ⟨p1,p2,xs,ys,rfl,hp,hq,q⟩:=q1
 obtain ⟨u,w',rfl,ru,rw'⟩:=vals2 r1
 cases (show u=Value.ref _ from ru)
 cases (show w'=Value.ref _ from rw')
 obtain ⟨its,r1,T1,z1⟩:=I1.tuple hp
 obtain ⟨jts,r2,T2,z2⟩:=I1.tuple hq
 refine zjN T1 T2 fun g S sz up=>wpAny_pyIter_zip S.zp ?_
 have lt1:p1 < s1.heap.objs.size:=by obtain ⟨r,e,_⟩:=T1;exact Heap.lt_size e
 have lt2:p2 < s1.heap.objs.size:=by obtain ⟨r,e,_⟩:=T2;exact Heap.lt_size e
 refine ⟨_,_,_,_,H1,rfl,I1.kept (t':=s1.toks) up,ziv (zlr _ _ _ lt1 lt2),S.zi,fun b hb=>?_,q⟩
 have hb':s1.heap.objs.size≤b:=by
  simp only [List.mem_cons,List.not_mem_nil,or_false] at hb
  rcases hb with rfl | rfl | rfl | rfl | rfl
  ·exact Nat.le_add_right _ _
  ·exact Nat.le_add_right _ _
  ·exact Nat.le_add_right _ _
  ·exact Nat.le_refl _
  ·exact Nat.le_add_right _ _
 exact I1.fpOk hb' (I1.hok.fresh hb')
theorem zj8 {K:PySem.W.Frag}{p q:Addr}{xs us:List V}{g:TG}{tb:TS}{D:Ends}{σ:St}{H:Hp}(Pv:Nat→St→Hp→Prop)(h0:Pv 0 σ H)(hl:∀i σ H,Pv i σ H→SqT K H p xs∧SqT K H q us)
  (hs:∀i x u T σ H,xs[i]? =some x→us[i]? =some u→H T=none→Pv i σ H→g (.ref T) σ (upd H T (.tup [x,u])) fun σ2 H2=>tb {D with nx:=Pv (i+1),ct:=Pv (i+1),bk:=D.nx} σ2 H2) (hd:∀σ H,Pv (min xs.length us.length) σ H→D.nx σ H):
  ∃W:Nat→Nat→St→Hp→Prop,(∃m,W 0 m σ H)∧∀i m σ H,W i m σ H→
   ((Itz K p q xs us).stop i H∧D.nx σ H)∨((Itz K p q xs us).go i H∧∃N:St→Hp→Prop,(∀σ' H',N σ' H'→∃m',m' < m∧W (i+1) m' σ' H')∧∀x H',(Itz K p q xs us).yld i H x H'→g x σ H' fun σ2 H2=>tb {D with nx:=N,ct:=N,bk:=D.nx} σ2 H2):=by
 refine ⟨fun i m σ H=>m=min xs.length us.length - i∧i≤min xs.length us.length∧Pv i σ H,⟨_,rfl,Nat.zero_le _,h0⟩,?_⟩
 rintro i m σ H ⟨rfl,hi,p⟩
 have q:=hl i σ H p
 by_cases hlt:i < min xs.length us.length
 ·refine .inr ⟨⟨q.1,q.2,hlt⟩,Pv (i+1),fun σ' H' p'=>⟨_,by omega,rfl,hlt,p'⟩,fun x H' y=>?_⟩
  obtain ⟨T,a,b,hT,e1,e2,rfl,rfl⟩:=y
  exact hs i a b T σ H e1 e2 hT p
 ·have e:i=min xs.length us.length:=by omega
  subst e
  exact .inl ⟨⟨q.1,q.2,Nat.le_refl _⟩,hd σ H p⟩
end
end L2
namespace Pv
open PySem L2
mutual
def eqT:Th→Th→Bool
 | .non,.non=>true
 | .int a,.int b=>a==b
 | .str a,.str b=>a==b
 | .tup a,.tup b=>eqL a b
 | _,_=>false
def eqL:List Th→List Th→Bool
 | [],[]=>true
 | t::r,u::q=>eqT t u && eqL r q
 | _,_=>false
end
mutual
theorem zaX:∀t u:Th,eqT t u=true↔t=u
 | .non,.non=>by simp [eqT]
 | .non,.int _=>by simp [eqT]
 | .non,.str _=>by simp [eqT]
 | .non,.tup _=>by simp [eqT]
 | .int _,.non=>by simp [eqT]
 | .int a,.int b=>by simp [eqT]
 | .int _,.str _=>by simp [eqT]
 | .int _,.tup _=>by simp [eqT]
 | .str _,.non=>by simp [eqT]
 | .str _,.int _=>by simp [eqT]
 | .str a,.str b=>by simp [eqT]
 | .str _,.tup _=>by simp [eqT]
 | .tup _,.non=>by simp [eqT]
 | .tup _,.int _=>by simp [eqT]
 | .tup _,.str _=>by simp [eqT]
 | .tup a,.tup b=>by
  have:=zfl a b
  simp [eqT,this]
theorem zfl:∀a b:List Th,eqL a b=true↔a=b
 | [],[]=>by simp [eqL]
 | [],_::_=>by simp [eqL]
 | _::_,[]=>by simp [eqL]
 | t::r,u::q=>by
  have h1:=zaX t u
  have h2:=zfl r q
  simp [eqL,h1,h2]
end
theorem zao (t:Th):eqT t t=true:=(zaX t t).mpr rfl
theorem zcP:∀a b:List Th,eqL a b=((List.range (min a.length b.length)).all (fun j=>eqT (a[j]?.getD .non) (b[j]?.getD .non)) && a.length==b.length)
 | [],[]=>rfl
 | [],_::_=>by simp [eqL]
 | _::_,[]=>by simp [eqL]
 | t::r,u::q=>by
  have h:=zcP r q
  show (eqT t u && eqL r q)=_
  rw [h,List.length_cons,List.length_cons,Nat.succ_min_succ,List.range_succ_eq_map,List.all_cons,List.all_map]
  have e:(fun j=>eqT ((t::r)[j]?.getD .non) ((u::q)[j]?.getD .non)) ∘ Nat.succ=fun j=>eqT (r[j]?.getD .non) (q[j]?.getD .non):=by
   funext j
   simp
  rw [e]
  have e2:(r.length+1==q.length+1)=(r.length==q.length):=by
   rw [Bool.eq_iff_iff];simp
  rw [e2,Bool.and_assoc]
  rfl
theorem Rep.inj {H:Hp}{t u:Th}{v:V}(r:Rep H t v)(q:Rep H u v):t=u:=by
 induction r generalizing u with
 | non=>cases q;rfl
 | int i=>cases q;rfl
 | str x=>cases q;rfl
 | @tup a xs ts e l h ih=>
  cases q with
  | @tup _ ys us e' l' h'=>
   rw [e] at e'
   cases e'
   refine congrArg Th.tup (List.ext_getElem? fun i=>?_)
   by_cases hi:i < xs.length
   ·have h1:ts[i]? =some ts[i]:=List.getElem?_eq_getElem (by omega)
    have h2:us[i]? =some us[i]:=List.getElem?_eq_getElem (by omega)
    rw [h1,h2,ih i xs[i] ts[i] (List.getElem?_eq_getElem hi) h1 (h' i xs[i] us[i] (List.getElem?_eq_getElem hi) h2)]
   ·rw [List.getElem?_eq_none (by omega),List.getElem?_eq_none (by omega)]
open PySem.SeqAt in
section
variable {X:Cx}{pins:List (Addr ×Obj)}{σ:L2.St}{H:Hp}{s:Shared}
theorem zgm (I:Inv X pins σ H s){a b:Addr}{xs ys:List V}{ts us:List Th}{A:Around}(e:H a=some (.tup xs))(e':H b=some (.tup ys))(l:xs.length=ts.length)(l':ys.length=us.length)
  (ih:∀(j:Nat) (x y:V) (t u:Th) (vx vy:Value),xs[j]? =some x→ys[j]? =some y→ts[j]? =some t→us[j]? =some u→RelV x vx→RelV y vy→EqAt A.in1 s vx vy (eqT t u)):
  ∃its jts:List Value,s.heap.IsTuple a its.toArray∧s.heap.IsTuple b jts.toArray∧its.length=ts.length∧jts.length=us.length∧
   ∀j (h1:j < its.toArray.size) (h2:j < jts.toArray.size),EqAt A.in1 s its.toArray[j] jts.toArray[j] (eqT (ts[j]?.getD .non) (us[j]?.getD .non)):=by
 obtain ⟨its,r1,T1,_⟩:=I.tuple (SqT.of e)
 obtain ⟨jts,r2,T2,_⟩:=I.tuple (SqT.of e')
 have n1:=r1.length
 have n2:=r2.length
 refine ⟨its,jts,T1,T2,by omega,by omega,fun j h1 h2=>?_⟩
 have h1':j < its.length:=by simpa using h1
 have h2':j < jts.length:=by simpa using h2
 obtain ⟨vx,ex,rx⟩:=r1.get (List.getElem?_eq_getElem (show j < xs.length by omega))
 obtain ⟨vy,ey,ry⟩:=r2.get (List.getElem?_eq_getElem (show j < ys.length by omega))
 have g1:ts[j]? =some ts[j]:=List.getElem?_eq_getElem (by omega)
 have g2:us[j]? =some us[j]:=List.getElem?_eq_getElem (by omega)
 have q:=ih j _ _ _ _ vx vy (List.getElem?_eq_getElem (show j < xs.length by omega)) (List.getElem?_eq_getElem (show j < ys.length by omega)) g1 g2 rx ry
 rw [g1,g2]
 have z1:its.toArray[j]=vx:=by
  have:its[j]? =some its[j]:=List.getElem?_eq_getElem h1'
  rw [this] at ex
  simpa using Option.some.inj ex
 have z2:jts.toArray[j]=vy:=by
  have:jts[j]? =some jts[j]:=List.getElem?_eq_getElem h2'
  rw [this] at ey
  simpa using Option.some.inj ey
 rw [z1,z2]
 exact q
theorem zgA (I:Inv X pins σ H s){t:Th}{x:V}(r:Rep H t x):∀{u:Th} {y:V} {vx vy:Value} {A:Around},Rep H u y→RelV x vx→RelV y vy→A.units+dep t+1 < cLine→EqAt A s vx vy (eqT t u):=by
 induction r with
 | non=>
  intro u y vx vy A q rx ry hu
  cases (show vx=Value.none from rx)
  cases q with
  | non=>cases (show vy=Value.none from ry);exact EqAt.same _
  | int i=>obtain ⟨k,rfl⟩:=ry;exact EqAt.none_int i k
  | str z=>obtain ⟨k,rfl⟩:=ry;exact EqAt.none_str z k
  | tup e l h=>
   cases (show vy=Value.ref _ from ry)
   obtain ⟨its,_,T,_⟩:=I.tuple (SqT.of e)
   exact EqAt.none_tuple T (by omega)
 | int a=>
  intro u y vx vy A q rx ry hu
  obtain ⟨k1,rfl⟩:=rx
  cases q with
  | non=>cases (show vy=Value.none from ry);exact EqAt.int_none a k1
  | int i=>obtain ⟨k,rfl⟩:=ry;exact EqAt.int_int a k1 i k
  | str z=>obtain ⟨k,rfl⟩:=ry;exact EqAt.int_str a k1 z k
  | tup e l h=>
   cases (show vy=Value.ref _ from ry)
   obtain ⟨its,_,T,_⟩:=I.tuple (SqT.of e)
   exact EqAt.int_tuple a k1 T (by omega)
 | str a=>
  intro u y vx vy A q rx ry hu
  obtain ⟨k1,rfl⟩:=rx
  cases q with
  | non=>cases (show vy=Value.none from ry);exact EqAt.str_none a k1
  | int i=>obtain ⟨k,rfl⟩:=ry;exact EqAt.str_int a k1 i k
  | str z=>obtain ⟨k,rfl⟩:=ry;exact EqAt.str_str a k1 z k
  | tup e l h=>
   cases (show vy=Value.ref _ from ry)
   obtain ⟨its,_,T,_⟩:=I.tuple (SqT.of e)
   exact EqAt.str_tuple a k1 T (by omega)
 | @tup a xs ts e l h ih=>
  intro u y vx vy A q rx ry hu
  cases (show vx=Value.ref a from rx)
  cases q with
  | non=>
   cases (show vy=Value.none from ry)
   obtain ⟨its,_,T,_⟩:=I.tuple (SqT.of e)
   exact EqAt.tuple_none T (by omega)
  | int i=>
   obtain ⟨k,rfl⟩:=ry
   obtain ⟨its,_,T,_⟩:=I.tuple (SqT.of e)
   exact EqAt.tuple_int i k T (by omega)
  | str z=>
   obtain ⟨k,rfl⟩:=ry
   obtain ⟨its,_,T,_⟩:=I.tuple (SqT.of e)
   exact EqAt.tuple_str z k T (by omega)
  | @tup b ys us e' l' h'=>
   cases (show vy=Value.ref b from ry)
   by_cases hab:a=b
   ·subst hab
    have z:=Rep.inj (Rep.tup e l h) (Rep.tup e' l' h')
    rw [←z,zao]
    exact EqAt.same _
   ·have hd:dep (.tup ts)=depL ts+1:=rfl
    obtain ⟨its,jts,T1,T2,n1,n2,q⟩:=zgm (A:=A) I e e' l l' fun j x y t u vx vy h1 h2 h3 h4 rx ry=>ih j x t h1 h3 (h' j y u h2 h4) rx ry (by
     have:=zbw h3
     show A.units+1+dep t+1 < cLine
     omega)
    have R:=RcAt.tuples T1 T2 (show A.units < cLine by omega) q
    have e3:((List.range (min its.toArray.size jts.toArray.size)).all (fun j=>eqT (ts[j]?.getD .non) (us[j]?.getD .non)) && its.toArray.size==jts.toArray.size)=eqT (.tup ts) (.tup us):=by
     show _=eqL ts us
     rw [zcP,List.size_toArray,List.size_toArray,n1,n2]
    rw [e3] at R
    exact EqAt.of_refs hab R
theorem rc_T (I:Inv X pins σ H s){t u:Th}{x y:V}{vx vy:Value}{A:Around}(r:Rep H t x)(q:Rep H u y)(rx:RelV x vx)(ry:RelV y vy)(hu:A.units+dep t+1 < cLine):RcAt A s vx vy (eqT t u)∧RcNeAt A s vx vy (!eqT t u):=by
 cases r with
 | non=>
  cases (show vx=Value.none from rx)
  cases q with
  | non=>cases (show vy=Value.none from ry);exact ⟨RcAt.none_none,RcNeAt.none_none⟩
  | int i=>obtain ⟨k,rfl⟩:=ry;exact ⟨RcAt.none_int i k,RcNeAt.none_int i k⟩
  | str z=>obtain ⟨k,rfl⟩:=ry;exact ⟨RcAt.none_str z k,RcNeAt.none_str z k⟩
  | tup e l h=>
   cases (show vy=Value.ref _ from ry)
   obtain ⟨its,_,T,_⟩:=I.tuple (SqT.of e)
   exact ⟨RcAt.none_tuple T (by omega),RcNeAt.none_tuple T (by omega)⟩
 | int a=>
  obtain ⟨k1,rfl⟩:=rx
  cases q with
  | non=>cases (show vy=Value.none from ry);exact ⟨RcAt.int_none a k1,RcNeAt.int_none a k1⟩
  | int i=>obtain ⟨k,rfl⟩:=ry;exact ⟨RcAt.int_int a k1 i k,RcNeAt.int_int a k1 i k⟩
  | str z=>obtain ⟨k,rfl⟩:=ry;exact ⟨RcAt.int_str a k1 z k,RcNeAt.int_str a k1 z k⟩
  | tup e l h=>
   cases (show vy=Value.ref _ from ry)
   obtain ⟨its,_,T,_⟩:=I.tuple (SqT.of e)
   exact ⟨RcAt.int_tuple a k1 T (by omega),RcNeAt.int_tuple a k1 T (by omega)⟩
 | str a=>
  obtain ⟨k1,rfl⟩:=rx
  cases q with
  | non=>cases (show vy=Value.none from ry);exact ⟨RcAt.str_none a k1,RcNeAt.str_none a k1⟩
  | int i=>obtain ⟨k,rfl⟩:=ry;exact ⟨RcAt.str_int a k1 i k,RcNeAt.str_int a k1 i k⟩
  | str z=>obtain ⟨k,rfl⟩:=ry;exact ⟨RcAt.str_str a k1 z k,RcNeAt.str_str a k1 z k⟩
  | tup e l h=>
   cases (show vy=Value.ref _ from ry)
   obtain ⟨its,_,T,_⟩:=I.tuple (SqT.of e)
   exact ⟨RcAt.str_tuple a k1 T (by omega),RcNeAt.str_tuple a k1 T (by omega)⟩
 | @tup a xs ts e l h=>
  cases (show vx=Value.ref a from rx)
  cases q with
  | non=>
   cases (show vy=Value.none from ry)
   obtain ⟨its,_,T,_⟩:=I.tuple (SqT.of e)
   exact ⟨RcAt.tuple_none T (by omega),RcNeAt.tuple_none T (by omega)⟩
  | int i=>
   obtain ⟨k,rfl⟩:=ry
   obtain ⟨its,_,T,_⟩:=I.tuple (SqT.of e)
   exact ⟨RcAt.tuple_int i k T (by omega),RcNeAt.tuple_int i k T (by omega)⟩
  | str z=>
   obtain ⟨k,rfl⟩:=ry
   obtain ⟨its,_,T,_⟩:=I.tuple (SqT.of e)
   exact ⟨RcAt.tuple_str z k T (by omega),RcNeAt.tuple_str z k T (by omega)⟩
  | @tup b ys us e' l' h'=>
   cases (show vy=Value.ref b from ry)
   have hd:dep (.tup ts)=depL ts+1:=rfl
   obtain ⟨its,jts,T1,T2,n1,n2,q⟩:=zgm (A:=A) I e e' l l' fun j x y t u vx vy h1 h2 h3 h4 rx ry=>zgA I (h j x t h1 h3) (h' j y u h2 h4) rx ry (by
     have:=zbw h3
     show A.units+1+dep t+1 < cLine
     omega)
   have e3:((List.range (min its.toArray.size jts.toArray.size)).all (fun j=>eqT (ts[j]?.getD .non) (us[j]?.getD .non)) && its.toArray.size==jts.toArray.size)=eqT (.tup ts) (.tup us):=by
    show _=eqL ts us
    rw [zcP,List.size_toArray,List.size_toArray,n1,n2]
   have R:=RcAt.tuples T1 T2 (show A.units < cLine by omega) q
   have R':=RcNeAt.tuples T1 T2 (show A.units < cLine by omega) q
   rw [e3] at R R'
   exact ⟨R,R'⟩
end
section
variable {X:Cx}
theorem zdZ {k:Nat}(hr:Room k X.A):OpR X (compareOp .Eq) (fun x y H Q=>∃t u,Rep H t x∧Rep H u y∧dep t≤50∧Q (.bl (eqT t u)) H):=by
 intro pins s σ H x y v w Q I rx ry h
 obtain ⟨t,u,r1,r2,hd,q⟩:=h
 have hu:=hr.units
 exact (rc_T I r1 r2 rx ry (by omega)).1 _ _ _ _ ⟨.bl _,H,I,rfl,q⟩
theorem zd0 {k:Nat}(hr:Room k X.A):OpR X (compareOp .NotEq) (fun x y H Q=>∃t u,Rep H t x∧Rep H u y∧dep t≤50∧Q (.bl (!eqT t u)) H):=by
 intro pins s σ H x y v w Q I rx ry h
 obtain ⟨t,u,r1,r2,hd,q⟩:=h
 have hu:=hr.units
 exact (rc_T I r1 r2 rx ry (by omega)).2 _ _ _ _ ⟨.bl _,H,I,rfl,q⟩
end
end Pv
namespace L2
open PySem PySem.Spec PyProof.Rows
section
open PySem.SeqAt
open PySem.AutoSeq1 (wpAny_loadPart')
open PySem.MeetsSeq PySem.MeetsSeq2 PySem.MeetsSeq3
end
section
variable {X:Cx}
def rLtL (K:PySem.W.Frag):R2:=fun x y H Q=>∃(a b:Addr) (ns ms:List Int),x=.ref a∧y=.ref b∧H a=some (.lst (ns.map V.int))∧H b=some (.lst (ms.map V.int))∧Q (.bl (HT.lexLt ns ms)) H
end
end L2
namespace L2
open PySem PySem.Spec PyProof.Rows
section
open PySem.AutoSeq1 (wpAny_loadPart')
end
section
variable {X:Cx}
def zno:R2:=fun x y H Q=>∃(p:Addr) (k:Int) (v:V),x=.ref p∧y=.int k∧H p=some (.tup [v])∧2≤k∧k≤1000∧∀r,H r=none→Q (.ref r) (upd H r (.tup (List.replicate k.toNat v)))
def zmO (K:PySem.W.Frag):R2:=fun x y H Q=>∃(a b:Addr) (xs ys:List V),x=.ref a∧y=.ref b∧H a=some (.tup xs)∧H b=some (.tup ys)∧xs.length+ys.length≤sizeLine∧
 ∀(r:Addr) (H':Hp),Same H H'→H' r=some (.tup (xs++ys))→Q (.ref r) H'
end
end L2
namespace Pv
open PySem L2
theorem szL {n:Nat}(h:n≤100000):n≤sizeLine:=Nat.le_trans h (by rw [sizeLine_eq];decide)
theorem zcS {J:It}{n:Nat}{σ:St}{js:List Nat}{tt:TT}{te:TE}{Q:VK}{H1:Hp}{p:Addr}(Pv:Nat→List V→Hp→Prop)(h0:Pv 0 [] (upd H1 p (.lst [])))
  (hg:∀i acc H,i < n→Pv i acc H→J.go i H) (ht:∀acc H,Pv n acc H→J.stop n H)
  (hs:∀i acc H x H',i < n→Pv i acc H→J.yld i H x H'→tt (some x::frees σ js) H' fun ok H2=>
   if ok=true then te (some x::frees σ js) H2 fun y H3=>H3 p=some (.lst acc)∧acc.length < sizeLine∧∃m',m' < n - i∧(m'=n - (i+1)∧i+1≤n∧Pv (i+1) (acc++ [y]) (upd H3 p (.lst (acc++ [y]))))
   else∃m',m' < n - i∧(m'=n - (i+1)∧i+1≤n∧Pv (i+1) acc H2)) (hd:∀acc H,Pv n acc H→Q (.ref p) H):
  zjd J p σ js tt te H1 Q:=by
 refine ⟨fun i m acc H=>m=n - i∧i≤n∧Pv i acc H,⟨n,by simp,Nat.zero_le _,h0⟩,?_⟩
 rintro i m acc H ⟨rfl,hi,p⟩
 by_cases hlt:i < n
 ·exact .inr ⟨hg i acc H hlt p,fun x H' y=>hs i acc H x H' hlt p y⟩
 ·have e:i=n:=by omega
  subst e
  exact .inl ⟨ht acc H p,hd acc H p⟩
theorem nxt {i n:Nat}{C:Prop}(h:i < n)(c:C):∃m',m' < n - i∧(m'=n - (i+1)∧i+1≤n∧C):=⟨_,by omega,rfl,h,c⟩
def numOf (l:List Nat):Int:=l.foldl (fun (n:Int) (c:Nat)=>n * 128+(c:Int)) 0
theorem zgu (l:List Nat)(c:Nat):numOf (l++ [c])=numOf l * 128+c:=by
 unfold numOf;rw [List.foldl_append];rfl
def chunk (x:Str)(k:Nat):List Nat:=(x.cps.toList.drop (7 * k)).take 7
def zfp (x:Str)(k:Nat):Str:=⟨(chunk x k).toArray⟩
def zbm (x:Str):Nat:=(x.length+6) / 7
def zdE (x:Str):List Int:=(List.range (zbm x)).map fun k=>numOf (chunk x k)
mutual
def zaP:Th→List Int
 | .non=>[1]
 | .int n=>[2,(n+10 ^ 30) / 10 ^ 15,(n+10 ^ 30) % 10 ^ 15]
 | .str x=>[3,(x.length:Int)]++zdE x
 | .tup ts=>[4,(ts.length:Int)]++zaz ts
def zaz:List Th→List Int
 | []=>[]
 | t::r=>zaP t++zaz r
end
theorem zdO:∀(ts:List Th) (t:Th),zaz (ts++ [t])=zaz ts++zaP t
 | [],t=>by simp [zaz]
 | u::r,t=>by
  have:=zdO r t
  show zaP u++zaz (r++ [t])=zaP u++zaz r++zaP t
  rw [this,List.append_assoc]
theorem zf7 {ts:List Th}{i:Nat}{t:Th}(h:ts[i]? =some t):zaz (ts.take (i+1))=zaz (ts.take i)++zaP t:=by
 rw [List.take_add_one,h]
 exact zdO _ _
mutual
theorem zdw:∀t:Th,Wf t→(zaP t).length≤11 * nodes t
 | .non,_=>by show 1≤11 * 1;omega
 | .int n,_=>by show 3≤11 * 1;omega
 | .str x,h=>by
  have h1:x.length≤60:=h.1
  show ([3,(x.length:Int)]++zdE x).length≤11 * 1
  have h2:(zdE x).length=zbm x:=by unfold zdE;rw [List.length_map,List.length_range]
  rw [List.length_append,h2]
  show 2+zbm x≤11
  unfold zbm
  omega
 | .tup ts,h=>by
  have:=zcW ts h.2
  show ([4,(ts.length:Int)]++zaz ts).length≤11 * (1+zcr ts)
  rw [List.length_append]
  show 2+(zaz ts).length≤_
  omega
theorem zcW:∀ts:List Th,WfL ts→(zaz ts).length≤11 * zcr ts
 | [],_=>by show 0≤_;omega
 | t::r,h=>by
  have h1:=zdw t h.1
  have h2:=zcW r h.2
  show (zaP t++zaz r).length≤11 * (nodes t+zcr r)
  rw [List.length_append]
  omega
end
theorem zco:∀(ts:List Th) (i:Nat),(zaz (ts.take i)).length≤(zaz ts).length
 | [],i=>by rw [List.take_nil];exact Nat.le_refl _
 | t::r,0=>by show 0≤_;omega
 | t::r,i+1=>by
  have:=zco r i
  show (zaP t++zaz (r.take i)).length≤(zaP t++zaz r).length
  rw [List.length_append,List.length_append]
  omega
theorem zh9 {x:Str}{k:Nat}(h:k < zbm x):cutS x (some (0+(k:Int) * 7)) (some (0+(k:Int) * 7+7))=zfp x k:=by
 unfold zbm at h
 have e1:(0+(k:Int) * 7)=((7 * k:Nat):Int):=by omega
 have e2:(0+(k:Int) * 7+7)=((7 * k+7:Nat):Int):=by omega
 unfold cutS zfp chunk
 rw [e2,e1,HT.sIx_nat,HT.sIx_nat]
 have hl:x.cps.toList.length=x.length:=Array.length_toList
 have a1:min (7 * k) x.length=7 * k:=by omega
 rw [a1]
 refine congrArg (fun l=>(⟨List.toArray l⟩:Str)) ?_
 by_cases hb:7 * k+7≤x.length
 ·rw [show min (7 * k+7) x.length - 7 * k=7 by omega]
 ·rw [List.take_of_length_le (by rw [List.length_drop];omega),List.take_of_length_le (by rw [List.length_drop];omega)]
theorem zhG {x:Str}:(((x.length:Int)+7 - 1) / 7).toNat=zbm x:=by unfold zbm;omega
def zdf (l:List Int):Int:=l.foldl (fun h c=>(h * 1234567890123456789+c) % 2305843009213693951) 7
def zy (t:Th):Int:=zdf (zaP t)+1
theorem zec (l:List Int)(c:Int):zdf (l++ [c])=(zdf l * 1234567890123456789+c) % 2305843009213693951:=by
 unfold zdf;rw [List.foldl_append];rfl
theorem zgQ {l:List Int}{i:Nat}{c:Int}(h:l[i]? =some c):zdf (l.take (i+1))=(zdf (l.take i) * 1234567890123456789+c) % 2305843009213693951:=by
 rw [List.take_add_one,h];exact zec _ _
theorem zdP (l:List Int):0≤zdf l∧zdf l < 2305843009213693951:=by
 rcases List.eq_nil_or_concat l with rfl | ⟨r,c,rfl⟩
 ·exact ⟨by decide,by decide⟩
 ·rw [List.concat_eq_append,zec]
  exact ⟨Int.emod_nonneg _ (by decide),Int.emod_lt_of_pos _ (by decide)⟩
end Pv
namespace Pv
theorem zei:∀{ts:List Th} {i:Nat} {t:Th},ts[i]? =some t→nodes t≤zcr ts
 | [],_,_,e=>by simp at e
 | u::r,0,t,e=>by simp at e;subst e;exact Nat.le_add_right _ _
 | u::r,i+1,t,e=>Nat.le_trans (zei (i:=i) (by simpa using e)) (Nat.le_add_left _ _)
end Pv
namespace Pv
open L2
theorem tt1 {σ:L2.St}{H:Hp}{A B:Hp→Prop}(h:A H):zhc σ H fun ok H2=>if ok=true then A H2 else B H2:=by
 show if true=true then A H else B H
 rw [if_pos rfl]
 exact h
end Pv
namespace Pv
open PySem L2
def zan:Th→Int
 | .non=>0
 | .int _=>1
 | .str _=>2
 | .tup _=>3
mutual
def zh:Th→Th→Bool
 | .non,.non=>false
 | .int a,.int b=>decide (a < b)
 | .str a,.str b=>decide (a.cps.toList < b.cps.toList)
 | .tup a,.tup b=>zaO a b
 | t,u=>decide (zan t < zan u)
def zaO:List Th→List Th→Bool
 | [],[]=>false
 | [],_::_=>true
 | _::_,[]=>false
 | t::r,u::q=>if eqT t u=true then zaO r q else zh t u
end
mutual
def rowT:Th→List Int
 | .non=>[0]
 | .int a=>[1,a]
 | .str x=>[2]++x.cps.toList.map (fun (c:Nat)=>(c:Int))++ [-1]
 | .tup ts=>[3]++rowL ts++ [-1]
def rowL:List Th→List Int
 | []=>[]
 | t::r=>rowT t++rowL r
end
theorem ze2:∀(p a b:List Int),HT.lexLt (p++a) (p++b)=HT.lexLt a b
 | [],_,_=>rfl
 | x::r,a,b=>by
  rw [List.cons_append,List.cons_append,HT.lexLt_cons,if_pos rfl]
  exact ze2 r a b
theorem zby {x y:Int}(h:x≠y)(a b:List Int):HT.lexLt (x::a) (y::b)=decide (x < y):=by rw [HT.lexLt_cons,if_neg h]
theorem zhl:∀(x y:List Nat) (a b:List Int),x≠y→HT.lexLt (x.map (fun (c:Nat)=>(c:Int))++ -1::a) (y.map (fun (c:Nat)=>(c:Int))++ -1::b)=decide (x < y)
 | [],[],_,_,h=>absurd rfl h
 | [],d::y,a,b,_=>by
  show HT.lexLt (-1::a) ((d:Int)::_)=_
  rw [zby (by omega),decide_eq_true (by omega)]
  exact (decide_eq_true (List.nil_lt_cons d y)).symm
 | c::x,[],a,b,_=>by
  show HT.lexLt ((c:Int)::_) (-1::b)=_
  rw [zby (by omega),decide_eq_false (by omega)]
  exact (decide_eq_false (List.not_lt_nil _)).symm
 | c::x,d::y,a,b,h=>by
  show HT.lexLt ((c:Int)::_) ((d:Int)::_)=_
  by_cases e:c=d
  ·subst e
   rw [HT.lexLt_cons,if_pos rfl]
   have:=zhl x y a b (fun z=>h (by rw [z]))
   refine Eq.trans this ?_
   rw [Bool.eq_iff_iff]
   simp [List.cons_lt_cons_iff]
  ·rw [zby (by omega)]
   rw [Bool.eq_iff_iff]
   simp [List.cons_lt_cons_iff,e]
theorem zdi (t:Th):∃r,rowT t=zan t::r:=by
 cases t with
 | non=>exact ⟨[],rfl⟩
 | int a=>exact ⟨[a],rfl⟩
 | str x=>exact ⟨_,rfl⟩
 | tup ts=>exact ⟨_,rfl⟩
theorem zha (t:Th):0≤zan t:=by
 cases t with
 | non=>exact (by decide:(0:Int)≤0)
 | int _=>exact (by decide:(0:Int)≤1)
 | str _=>exact (by decide:(0:Int)≤2)
 | tup _=>exact (by decide:(0:Int)≤3)
theorem zlx {x y:Str}(h:x≠y):x.cps.toList≠y.cps.toList:=fun z=>h (by
 rcases x with ⟨a⟩
 rcases y with ⟨b⟩
 have:a=b:=Array.toList_inj.mp z
 rw [this])
theorem zas {t u:Th}(h:zan t≠zan u)(a b:List Int):HT.lexLt (rowT t++a) (rowT u++b)=decide (zan t < zan u):=by
 obtain ⟨r,e⟩:=zdi t
 obtain ⟨q,e'⟩:=zdi u
 rw [e,e',List.cons_append,List.cons_append]
 exact zby h _ _
mutual
theorem zhj:∀(t u:Th) (a b:List Int),t≠u→HT.lexLt (rowT t++a) (rowT u++b)=zh t u
 | .non,.non,_,_,h=>absurd rfl h
 | .non,.int _,a,b,_=>zas (t:=.non) (u:=.int _) (by show (0:Int)≠1;decide) a b
 | .non,.str _,a,b,_=>zas (t:=.non) (u:=.str _) (by show (0:Int)≠2;decide) a b
 | .non,.tup _,a,b,_=>zas (t:=.non) (u:=.tup _) (by show (0:Int)≠3;decide) a b
 | .int _,.non,a,b,_=>zas (t:=.int _) (u:=.non) (by show (1:Int)≠0;decide) a b
 | .int x,.int y,a,b,h=>by
  show HT.lexLt (1::x::a) (1::y::b)=decide (x < y)
  rw [HT.lexLt_cons,if_pos rfl]
  exact zby (fun z=>h (by rw [z])) _ _
 | .int _,.str _,a,b,_=>zas (t:=.int _) (u:=.str _) (by show (1:Int)≠2;decide) a b
 | .int _,.tup _,a,b,_=>zas (t:=.int _) (u:=.tup _) (by show (1:Int)≠3;decide) a b
 | .str _,.non,a,b,_=>zas (t:=.str _) (u:=.non) (by show (2:Int)≠0;decide) a b
 | .str _,.int _,a,b,_=>zas (t:=.str _) (u:=.int _) (by show (2:Int)≠1;decide) a b
 | .str x,.str y,a,b,h=>by
  have e:∀(z:Str) (w:List Int),rowT (.str z)++w=2::(z.cps.toList.map (fun (c:Nat)=>(c:Int))++ -1::w):=fun z w=>by
   show ([2]++_++ [-1])++w=_
   simp
  rw [e,e,HT.lexLt_cons,if_pos rfl]
  exact zhl _ _ a b (zlx fun z=>h (by rw [z]))
 | .str _,.tup _,a,b,_=>zas (t:=.str _) (u:=.tup _) (by show (2:Int)≠3;decide) a b
 | .tup _,.non,a,b,_=>zas (t:=.tup _) (u:=.non) (by show (3:Int)≠0;decide) a b
 | .tup _,.int _,a,b,_=>zas (t:=.tup _) (u:=.int _) (by show (3:Int)≠1;decide) a b
 | .tup _,.str _,a,b,_=>zas (t:=.tup _) (u:=.str _) (by show (3:Int)≠2;decide) a b
 | .tup x,.tup y,a,b,h=>by
  have e:∀(z:List Th) (w:List Int),rowT (.tup z)++w=3::(rowL z++ -1::w):=fun z w=>by
   show ([3]++_++ [-1])++w=_
   simp
  rw [e,e,HT.lexLt_cons,if_pos rfl]
  exact zk5 x y a b (fun z=>h (by rw [z]))
theorem zk5:∀(x y:List Th) (a b:List Int),x≠y→HT.lexLt (rowL x++ -1::a) (rowL y++ -1::b)=zaO x y
 | [],[],_,_,h=>absurd rfl h
 | [],u::q,a,b,_=>by
  obtain ⟨r,e⟩:=zdi u
  have:=zha u
  show HT.lexLt (-1::a) ((rowT u++rowL q)++ -1::b)=true
  rw [e,List.cons_append,List.cons_append,zby (by omega),decide_eq_true (by omega)]
 | t::r,[],a,b,_=>by
  obtain ⟨r',e⟩:=zdi t
  have:=zha t
  show HT.lexLt ((rowT t++rowL r)++ -1::a) (-1::b)=false
  rw [e,List.cons_append,List.cons_append,zby (by omega),decide_eq_false (by omega)]
 | t::r,u::q,a,b,h=>by
  show HT.lexLt ((rowT t++rowL r)++ -1::a) ((rowT u++rowL q)++ -1::b)=if eqT t u=true then zaO r q else zh t u
  rw [List.append_assoc,List.append_assoc]
  by_cases e:t=u
  ·subst e
   rw [ze2,if_pos (zao t)]
   exact zk5 r q a b (fun z=>h (by rw [z]))
  ·rw [if_neg (fun z=>e ((zaX t u).mp z))]
   exact zhj t u _ _ e
end
theorem zde:∀l:List Int,HT.lexLt l l=false
 | []=>rfl
 | x::r=>by rw [HT.lexLt_cons,if_pos rfl];exact zde r
mutual
theorem zab:∀t:Th,zh t t=false
 | .non=>rfl
 | .int a=>by show decide (a < a)=false;exact decide_eq_false (by omega)
 | .str x=>by show decide (x.cps.toList < x.cps.toList)=false;exact decide_eq_false (List.lt_irrefl _)
 | .tup ts=>zcT ts
theorem zcT:∀ts:List Th,zaO ts ts=false
 | []=>rfl
 | t::r=>by
  show (if eqT t t=true then zaO r r else zh t t)=false
  rw [if_pos (zao t)]
  exact zcT r
end
theorem zay (t u:Th):HT.lexLt (rowT t) (rowT u)=zh t u:=by
 by_cases h:t=u
 ·subst h;rw [zde,zab]
 ·have:=zhj t u [] [] h
  rwa [List.append_nil,List.append_nil] at this
theorem zdU {t u:Th}(h:zan t≠zan u):zh t u=decide (zan t < zan u):=by
 have:=zas h [] []
 rwa [List.append_nil,List.append_nil,zay] at this
theorem zdT {ts us:List Th}{i:Nat}(h1:i < ts.length)(h2:i < us.length):zaO (ts.drop i) (us.drop i)=if eqT ts[i] us[i]=true then zaO (ts.drop (i+1)) (us.drop (i+1)) else zh ts[i] us[i]:=by
 rw [List.drop_eq_getElem_cons h1,List.drop_eq_getElem_cons h2]
 rfl
theorem zd8 (ts us:List Th):zaO (ts.drop (min ts.length us.length)) (us.drop (min ts.length us.length))=decide (ts.length < us.length):=by
 by_cases h:ts.length < us.length
 ·rw [Nat.min_eq_left (by omega),List.drop_length,List.drop_eq_getElem_cons h,decide_eq_true h]
  rfl
 ·rw [Nat.min_eq_right (by omega),List.drop_length,decide_eq_false h]
  cases e:ts.drop us.length <;> rfl
end Pv
namespace Pv
open PySem L2
abbrev zbM:Stmt:=top 60
theorem zeg:zv ["script","k"] ["script","k"] (zg zbM):=⟨rfl,rfl,rfl,by decide+kernel,rfl,by decide+kernel,by decide+kernel⟩
abbrev zcR:Stmt:=top 61
theorem za5:zv ["cell","k","one"] ["cell","k"] (zg zcR):=⟨rfl,rfl,rfl,by decide+kernel,rfl,by decide+kernel,by decide+kernel⟩
abbrev zbD:Stmt:=top 62
theorem zad:zv ["cell","way","least","xs","k","wide"] ["cell","way","least"] (zg zbD):=⟨rfl,rfl,rfl,by decide+kernel,rfl,by decide+kernel,by decide+kernel⟩
abbrev zcd:Stmt:=top 63
theorem zV:zv ["number","many","signs","text","k"] ["number","many"] (zg zcd):=⟨rfl,rfl,rfl,by decide+kernel,rfl,by decide+kernel,by decide+kernel⟩
theorem szl {n:Nat}(h:n≤1000):n≤sizeLine:=Nat.le_of_lt (zhZ h)
def zi1 (K:PySem.W.Frag):Sp:=fun vs H Q _=>∃(a:Addr) (ns:List Int) (k:Int),vs=[.ref a,.int k]∧SqL K H a (ns.map V.int)∧0≤k∧∀c:Int,Q (.int c) H
def zeI:Sp:=fun vs H Q _=>∃(c k:Int),vs=[.int c,.int k]∧0≤k∧k≤1000∧∀r:Int,0≤r→r < 2147483648→Q (.int r) H
def Below (xs ns:List Int):Prop:=xs.length=ns.length∧∀(i:Nat) (a b:Int),xs[i]? =some a→ns[i]? =some b→0≤a∧a < b
def ze4:Sp:=fun vs H Q _=>∃(c m:Int) (p:Addr) (ns:List Int),vs=[.int c,.int m,.ref p]∧H p=some (.lst (ns.map V.int))∧ns.length≤20∧(∀n∈ns,0 < n∧n < 10 ^ 40)∧
 ∀(r:Addr) (xs:List Int) (H':Hp),Same H H'→H' r=some (.lst (xs.map V.int))→Below xs ns→Q (.ref r) H'
def ze7:Sp:=fun vs H Q _=>∃(n m:Int),vs=[.int n,.int m]∧0≤m∧m≤60∧∀x:Str,zfX x→Q (.str x) H
instance decSign (c:Nat):Decidable (Sign c):=inferInstanceAs (Decidable (32≤c∧c≤126∧c≠37))
def SGs:Str:=Str.ofString " !\"#$&'()*+,-./0123456789:;<=>?@ABCDEFGHIJKLMNOPQRSTUVWXYZ[\\]^_`" ++Str.ofString "abcdefghijklmnopqrstuvwxyz{|}~"
theorem zjt:SGs.cps.toList.length=94:=by decide+kernel
theorem zjo:∀c∈SGs.cps.toList,Sign c:=by decide+kernel
theorem zmd {r:Int}(h0:0≤r)(h1:r < 94):∃c,atI SGs.cps.toList r=some c∧Sign c:=by
 have hl:r.toNat < SGs.cps.toList.length:=by rw [zjt];omega
 have er:r=((r.toNat:Nat):Int):=by omega
 have q:atI SGs.cps.toList ((r.toNat:Nat):Int)=some SGs.cps.toList[r.toNat]:=zaI (List.getElem?_eq_getElem hl)
 rw [←er] at q
 exact ⟨_,q,zjo _ (List.getElem_mem hl)⟩
theorem zhd (x y:Str):(x++y).cps.toList=x.cps.toList++y.cps.toList:=by
 show (x.cps++y.cps).toList=_
 simp
theorem zdK (x y:Str):(x++y).length=x.length+y.length:=by
 show (x.cps++y.cps).size=x.cps.size+y.cps.size
 simp
theorem zk {H H1:Hp}{p:Addr}{o:HO}(sm:Same H H1)(h:H1 p=none):Same H (upd H1 p o):=fun b u q=>by
 have q':=sm b u q
 rw [zq (zr q' h)];exact q'
theorem zaw {H H1:Hp}{p:Addr}{o:HO}(sm:Same H H1)(h:H p=none):Same H (upd H1 p o):=fun b u q=>by
 rw [zq (zr q h)];exact sm b u q
section
variable {P:Program}{w:World}{K:PySem.W.Frag}{mg:Str→Option Value}{base:Heap}
theorem zgG (D:Dfn K mg "_law_cell_at" zbM ["script","k"]) (m_len:mg "len" =none):Fn P w K mg base "_law_cell_at" 1 ["script","k"] (zi1 K):=by
 refine D.ok (k:=0) zeg (fun vs H Q E h=>?_) (fun f cdv A outer s H vs Q E hr h=>?_)
 ·obtain ⟨a,ns,k,rfl,_⟩:=h;rfl
 obtain ⟨a,ns,k,rfl,hS,h0,q⟩:=h
 refine ⟨_,(zd (zE (zw zcJ (pv 1) (zF (zI) (by rfl) m_len (by rfl) (za (pv 0) zc)) (zt _))
 (ze (zl (zm zB (pv 0) (pv 1) (fun _ _=>rfl))))
 zu)
 (ze (zl zb))),?_⟩
 refine ⟨_,rfl,_,rfl,a,_,rfl,.inl hS,_,_,rfl,rfl,_,rfl,?_⟩
 refine ifB (fun c=>?_) (fun c=>?_)
 ·have c':k < (((ns.map V.int).length:Nat):Int):=of_decide_eq_true c
  rw [List.length_map] at c'
  have hk:k.toNat < ns.length:=by omega
  have ek:k=((k.toNat:Nat):Int):=by omega
  have q1:atI (ns.map V.int) ((k.toNat:Nat):Int)=some (.int ns[k.toNat]):=zaI (by rw [List.getElem?_map,List.getElem?_eq_getElem hk] <;> rfl)
  rw [←ek] at q1
  exact ⟨_,rfl,_,rfl,a,_,_,_,rfl,rfl,hS,q1,q _⟩
 ·exact q _
theorem zlz (D:Dfn K mg "_law_mix" zcR ["cell","k"]):Fn P w K mg base "_law_mix" 1 ["cell","k"] zeI:=by
 refine D.ok (k:=0) za5 (fun vs H Q E h=>?_) (fun f cdv A outer s H vs Q E hr h=>?_)
 ·obtain ⟨c,k,rfl,_⟩:=h;rfl
 obtain ⟨c,k,rfl,k0,k1,q⟩:=h
 refine ⟨_,(zd (zj (i:=2) za5.nd rfl (Or.inl rfl) (zo z8 (zo zO (pv 0) (zo zaE zb (zo zO (pv 1) zb))) zb))
 (zd (zj (i:=2) za5.nd rfl (Or.inl rfl) (zo z8 (zo zaE (pv 2) (pv 2)) zb))
 (ze (zl (zo zaG (zo z8 (zo zaE (pv 2) (zo zO (zo zO (pv 2) zb) (zo zaE zb (pv 1)))) zb) zb))))),?_⟩
 have b0:0≤(c+130363 * (k+1)) % 2147483629:=Int.emod_nonneg _ (by decide)
 have b1:(c+130363 * (k+1)) % 2147483629 < 2147483629:=Int.emod_lt_of_pos _ (by decide)
 refine ⟨_,rfl,_,rfl,_,_,rfl,rfl,_,_,rfl,rfl,.inl ⟨by decide,by decide⟩,_,_,rfl,rfl,_,_,rfl,rfl,(show (0:Int) < 2147483629 by decide),?_⟩
 generalize hd:(c+130363 * (k+1)) % 2147483629=d at b0 b1
 show tSeq _ _ _ (List.set _ _ (some (V.int ((c+130363 * (k+1)) % 2147483629)))) _
 rw [hd]
 have g0:0≤d * d % 2147483587:=Int.emod_nonneg _ (by decide)
 have g1:d * d % 2147483587 < 2147483587:=Int.emod_lt_of_pos _ (by decide)
 refine ⟨_,rfl,_,rfl,_,_,rfl,rfl,.inl ⟨by omega,by omega⟩,_,_,rfl,rfl,(show (0:Int) < 2147483587 by decide),?_⟩
 generalize hf:d * d % 2147483587=g at g0 g1
 show zaZ 2 (V.int (d * d % 2147483587)) _ _ _
 rw [hf]
 have z0:0≤g * (g+6007+3 * k) % 2147483579:=Int.emod_nonneg _ (by decide)
 have z1:g * (g+6007+3 * k) % 2147483579 < 2147483579:=Int.emod_lt_of_pos _ (by decide)
 refine ⟨_,rfl,_,rfl,_,_,rfl,rfl,_,rfl,_,_,rfl,rfl,.inl ⟨by decide,by decide⟩,_,_,rfl,rfl,_,_,rfl,rfl,.inl ⟨by omega,by omega⟩,_,_,rfl,rfl,(show (0:Int) < 2147483579 by decide),_,_,rfl,rfl,⟨by decide,by decide+kernel⟩,q _ ?_ ?_⟩
 ·exact Int.ediv_nonneg z0 (by decide)
 ·have:g * (g+6007+3 * k) % 2147483579 / 16≤g * (g+6007+3 * k) % 2147483579:=Int.ediv_le_self _ z0
  exact Int.lt_of_le_of_lt this (Int.lt_trans z1 (by decide))
theorem zb4 {xs ns:List Int}{i:Nat}{a b:Int}(h:Below xs (ns.take i))(e:ns[i]? =some b)(h0:0≤a)(h1:a < b):Below (xs++ [a]) (ns.take (i+1)):=by
 have hi:i < ns.length:=(List.getElem?_eq_some_iff.mp e).1
 have hl:xs.length=i:=by rw [h.1,List.length_take];omega
 have et:ns.take (i+1)=ns.take i++ [b]:=by rw [List.take_add_one,e];rfl
 refine ⟨by rw [et,List.length_append,List.length_append,h.1];rfl,fun j u v hu hv=>?_⟩
 by_cases hj:j < i
 ·rw [List.getElem?_append_left (by omega)] at hu
  rw [et,List.getElem?_append_left (by rw [List.length_take];omega)] at hv
  exact h.2 j u v hu hv
 ·have hj2:j < xs.length+1:=by
   have:=(List.getElem?_eq_some_iff.mp hu).1
   rw [List.length_append] at this
   exact this
  have ej:j=i:=by omega
  subst ej
  rw [List.getElem?_append_right (by omega),hl,Nat.sub_self] at hu
  rw [List.getElem?_take_of_lt (by omega),e] at hv
  cases hu;cases hv
  exact ⟨h0,h1⟩
theorem zjg (D:Dfn K mg "_law_parts" zbD ["cell","way","least"]) (F_law_mix:Fn P w K mg base "_law_mix" 1 ["cell","k"] zeI) (m_range:mg "range" =none) (m_len:mg "len" =none):Fn P w K mg base "_law_parts" 2 ["cell","way","least"] ze4:=by
 refine D.ok (k:=1) zad (fun vs H Q E h=>?_) (fun f cdv A outer s H vs Q E hr h=>?_)
 ·obtain ⟨c,m,p,ns,rfl,_⟩:=h;rfl
 obtain ⟨c,m,p,ns,rfl,ep,l20,hn,q⟩:=h
 refine ⟨_,(zd (zj (i:=3) zad.nd rfl (Or.inl rfl) (zM zc))
 (zd (zaA PassesOwn.never rfl (za6 rfl m_range (za (zF (zI) (by rfl) m_len (by rfl) (za (pv 2) zc)) zc)) (z7 (i:=4) zad.nd rfl (Or.inl rfl))
 (ze (zE (zw zac (pv 1) zb (zt _))
 (zd (zaC (zcv PySem.F.plainAttrs_list PySem.F.slot_list_append PySem.F.type_list_append zar (pv 3) (za (zo z8 (pv 0) (zm zB (pv 2) (pv 4) (fun _ _=>rfl))) zc)))
 (ze (zj (i:=0) zad.nd rfl (Or.inl rfl) (zo zaG (pv 0) (zm zB (pv 2) (pv 4) (fun _ _=>rfl))))))
 (zd (zj (i:=5) zad.nd rfl (Or.inl rfl) (zo zO (zo zO (zo zaE (zC F_law_mix hr (by omega) (by rfl) (za (pv 0) (za (pv 4) zc))) (zo zaN zb zb)) (zo zaE (zC F_law_mix hr (by omega) (by rfl) (za (pv 0) (za (zo zO (pv 4) zb) zc))) (zo zaN zb zb))) (zC F_law_mix hr (by omega) (by rfl) (za (pv 0) (za (zo zO (pv 4) zb) zc)))))
 (ze (zaC (zcv PySem.F.plainAttrs_list PySem.F.slot_list_append PySem.F.type_list_append zar (pv 3) (za (zo z8 (pv 5) (zm zB (pv 2) (pv 4) (fun _ _=>rfl))) zc))))))))
 (ze (zl (pv 3))))),?_⟩
 refine ⟨szl (show 0≤1000 by decide),fun r hr0=>?_⟩
 have sm0:Same H (upd H r (.lst [])):=zk (Same.refl H) hr0
 refine ⟨_,rfl,p,_,rfl,.inl (SqL.of (sm0 _ _ ep)),?_⟩
 rw [List.length_map]
 refine ⟨_,rfl,by omega,by omega,?_⟩
 rw [Int.toNat_natCast]
 refine za8 (n:=ns.length) (fun i σ H'=>∃(c':Int) (xs:List Int) (k4 k5:Option V),σ=[some (.int c'),some (.int m),some (.ref p),some (.ref r),k4,k5]∧Same H H'∧H' r=some (.lst (xs.map V.int))∧Below xs (ns.take i)) ⟨c,[],_,_,rfl,sm0,zf,rfl,fun i a b h=>by simp at h⟩ ?_ ?_
 ·rintro i σ H1 hi ⟨c',xs,k4,k5,rfl,sm,er,hb⟩
  rw [Int.zero_add]
  have en:ns[i]? =some ns[i]:=List.getElem?_eq_getElem hi
  have hni:=hn _ (List.getElem_mem hi)
  have hxl:xs.length=i:=by rw [hb.1,List.length_take];omega
  have nr:p≠r:=zr ep hr0
  have ei:atI (ns.map V.int) ((i:Nat):Int)=some (.int ns[i]):=zaI (by rw [List.getElem?_map,en];rfl)
  have push:∀{H2:Hp} {u:Int},Same H H2→(xs.map V.int)++ [V.int u]=(xs++ [u]).map V.int:=fun _=>by rw [List.map_append];rfl
  refine ⟨_,rfl,rfl,_,rfl,?_⟩
  refine ifB (fun cc=>?_) (fun cc=>?_)
  ·refine ⟨_,rfl,.inl ⟨rfl,_,SqL.of er⟩,_,rfl,_,rfl,_,rfl,p,_,_,_,rfl,rfl,SqL.of (sm _ _ ep),ei,_,_,rfl,rfl,hni.1,r,_,_,rfl,rfl,er,Nat.lt_of_lt_of_le (show (xs.map V.int).length < 1000 by rw [List.length_map];omega) (szl (Nat.le_refl _)),?_⟩
   have sm1:Same H (upd H1 r (.lst ((xs.map V.int)++ [V.int (c' % ns[i])]))):=zaw sm hr0
   refine ⟨_,rfl,_,rfl,_,rfl,p,_,_,_,rfl,rfl,SqL.of (sm1 _ _ ep),ei,_,_,rfl,rfl,⟨hni.1,Int.lt_trans hni.2 (by decide+kernel)⟩,?_⟩
   exact ⟨_,xs++ [c' % ns[i]],_,_,rfl,sm1,by rw [zf,List.map_append];rfl,zb4 hb en (Int.emod_nonneg _ (by omega)) (Int.emod_lt_of_pos _ hni.1)⟩
  ·refine ⟨_,rfl,_,rfl,c',_,rfl,by omega,by omega,fun r1 a0 a1=>?_⟩
   refine ⟨_,_,rfl,rfl,⟨by decide,by decide,by decide⟩,_,_,rfl,rfl,.inl ⟨by omega,by omega⟩,?_⟩
   refine ⟨_,rfl,_,rfl,_,_,rfl,rfl,c',_,rfl,by omega,by omega,fun r2 b0 b1=>?_⟩
   refine ⟨_,_,rfl,rfl,⟨by decide,by decide,by decide⟩,_,_,rfl,rfl,.inl ⟨by omega,by omega⟩,_,_,rfl,rfl,?_⟩
   refine ⟨_,rfl,_,rfl,_,_,rfl,rfl,c',_,rfl,by omega,by omega,fun r3 d0 d1=>?_⟩
   refine ⟨_,_,rfl,rfl,?_⟩
   refine ⟨_,rfl,.inl ⟨rfl,_,SqL.of er⟩,_,rfl,_,rfl,_,rfl,p,_,_,_,rfl,rfl,SqL.of (sm _ _ ep),ei,_,_,rfl,rfl,hni.1,r,_,_,rfl,rfl,er,Nat.lt_of_lt_of_le (show (xs.map V.int).length < 1000 by rw [List.length_map];omega) (szl (Nat.le_refl _)),?_⟩
   exact ⟨_,xs++ [_],_,_,rfl,zaw sm hr0,by rw [zf,List.map_append];rfl,zb4 hb en (Int.emod_nonneg _ (by omega)) (Int.emod_lt_of_pos _ hni.1)⟩
 ·rintro σ H1 ⟨c',xs,k4,k5,rfl,sm,er,hb⟩
  rw [List.take_length] at hb
  exact ⟨_,rfl,q r xs H1 sm er hb⟩
theorem zje (D:Dfn K mg "_law_text" zcd ["number","many"]) (m_range:mg "range" =none):Fn P w K mg base "_law_text" 1 ["number","many"] ze7:=by
 refine D.ok (k:=0) zV (fun vs H Q E h=>?_) (fun f cdv A outer s H vs Q E hr h=>?_)
 ·obtain ⟨n,m,rfl,_⟩:=h;rfl
 obtain ⟨n,m,rfl,m0,m1,q⟩:=h
 refine ⟨_,(zd (zj (i:=2) zV.nd rfl (Or.inl rfl) zah)
 (zd (zj (i:=2) zV.nd rfl (Or.inl rfl) (zo zb0 (pv 2) zah))
 (zd (zj (i:=3) zV.nd rfl (Or.inl rfl) zah)
 (zd (zaA PassesOwn.never rfl (za6 rfl m_range (za (pv 1) zc)) (z7 (i:=4) zV.nd rfl (Or.inl rfl))
 (zd (zj (i:=3) zV.nd rfl (Or.inl rfl) (zo zb0 (pv 3) (zm ziJ (pv 2) (zo z8 (pv 0) zb) (fun _ _=>rfl))))
 (ze (zj (i:=0) zV.nd rfl (Or.inl rfl) (zo zaG (pv 0) zb)))))
 (ze (zl (pv 3))))))),?_⟩
 refine ⟨_,rfl,_,_,rfl,rfl,szl (by decide+kernel),?_⟩
 refine ⟨_,rfl,_,rfl,by omega,by omega,?_⟩
 refine za8 (n:=m.toNat) (fun i σ H'=>H'=H∧∃(n':Int) (x:Str) (kk:Option V),σ=[some (.int n'),some (.int m),some (.str SGs),some (.str x),kk]∧x.length=i∧(∀c∈x.cps.toList,Sign c)) ⟨rfl,n,Str.ofString "",_,rfl,by decide+kernel,by decide+kernel⟩ ?_ ?_
 ·rintro i σ H' hi ⟨rfl,n',x,kk,rfl,hl,hs⟩
  obtain ⟨c,ec,hc⟩:=zmd (Int.emod_nonneg n' (by decide)) (Int.emod_lt_of_pos n' (show (0:Int) < 94 by decide))
  refine ⟨_,rfl,_,rfl,_,rfl,_,_,rfl,rfl,(show (0:Int) < 94 by decide),SGs,_,c,rfl,rfl,szl (by decide+kernel),ec,?_⟩
  refine ⟨_,_,rfl,rfl,szl (show x.length+1≤1000 by omega),?_⟩
  refine ⟨_,rfl,_,_,rfl,rfl,⟨by decide,by decide+kernel⟩,?_⟩
  refine ⟨rfl,_,_,_,rfl,by rw [zdK,hl];rfl,fun d hd=>?_⟩
  rw [zhd] at hd
  rcases List.mem_append.mp hd with hd | hd
  ·exact hs d hd
  ·have e:d=c:=by simpa using hd
   rw [e];exact hc
 ·rintro σ H' ⟨rfl,n',x,kk,rfl,hl,hs⟩
  exact ⟨_,rfl,q x ⟨by omega,hs⟩⟩
end
end Pv
namespace Pv
open PySem L2
abbrev ziU:Stmt:=top 9
abbrev zgI:Stmt:=top 10
abbrev zc3:Stmt:=top 11
theorem zfo:zv ["thing","folded","code"] ["thing"] (zg ziU):=⟨rfl,rfl,rfl,by decide+kernel,rfl,by decide+kernel,by decide+kernel⟩
theorem zdl:zv ["thing","raised","sevens","row","part"] ["thing"] (zg zgI):=⟨rfl,rfl,rfl,by decide+kernel,rfl,by decide+kernel,by decide+kernel⟩
theorem zbA:zv ["signs","number","sign"] ["signs"] (zg zc3):=⟨rfl,rfl,rfl,by decide+kernel,rfl,by decide+kernel,by decide+kernel⟩
def zg6:Sp:=fun vs H Q _=>∃x:Str,vs=[.str x]∧Q (.int (numOf x.cps.toList)) H
def zhk (n:Nat):Sp:=fun vs H Q _=>∃(t:Th) (v:V),vs=[v]∧Rep H t v∧Wf t∧dep t < n∧nodes t≤100∧∀(r:Addr) (H':Hp),Same H H'→H' r=some (.lst ((zaP t).map V.int))→Q (.ref r) H'
def zdy:Sp:=fun vs H Q _=>∃(t:Th) (v:V),vs=[v]∧Rep H t v∧Wf t∧dep t < 10∧nodes t≤100∧∀(H':Hp),Same H H'→Q (.int (zy t)) H'
section
variable {P:Program}{w:World}{K:PySem.W.Frag}{mg:Str→Option Value}{base:Heap}
theorem zfA (D:Dfn K mg "number_of" zc3 ["signs"]) (m_ord:mg "ord" =none):Fn P w K mg base "number_of" 1 ["signs"] zg6:=by
 refine D.ok (k:=0) zbA (fun vs H Q E h=>?_) (fun f cdv A outer s H vs Q E hr h=>?_)
 ·obtain ⟨x,rfl,_⟩:=h;rfl
 obtain ⟨x,rfl,q⟩:=h
 refine ⟨_,(zd (zj (i:=1) zbA.nd rfl (Or.inl rfl) zb)
 (zd (zaA PassesOwn.never rfl (zlb (pv 0)) (z7 (i:=2) zbA.nd rfl (Or.inl rfl))
 (ze (zj (i:=1) zbA.nd rfl (Or.inl rfl) (zo zO (zo zaE (pv 1) zb) (zF (ziE) (by rfl) m_ord (by rfl) (za (pv 2) zc))))))
 (ze (zl (pv 1))))),?_⟩
 refine ⟨_,rfl,x,rfl,?_⟩
 refine zka (z:=x) (fun i σ H'=>H'=H∧∃kk,σ=[some (.str x),some (.int (numOf (x.cps.toList.take i))),kk]) ⟨rfl,_,rfl⟩ ?_ ?_
 ·rintro i c σ H' hc ⟨rfl,kk,rfl⟩
  refine ⟨_,rfl,_,_,rfl,rfl,.inr ⟨by decide,by decide⟩,_,rfl,_,rfl,rfl,_,_,rfl,rfl,rfl,some (.str ⟨#[c]⟩),?_⟩
  have e:x.cps.toList.take (i+1)=x.cps.toList.take i++ [c]:=by
   rw [List.take_add_one,Array.getElem?_toList,hc];rfl
  rw [e,zgu]
  rfl
 ·rintro σ H' ⟨rfl,kk,rfl⟩
  refine ⟨_,rfl,?_⟩
  have e:x.cps.toList.take x.cps.size=x.cps.toList:=List.take_of_length_le (by simp)
  rw [e]
  exact q
theorem zfU (D:Dfn K mg "codes" zgI ["thing"]) (F_number_of:Fn P w K mg base "number_of" 1 ["signs"] zg6) (m_isinstance:mg "isinstance" =none) (m_int:mg "int" =none) (m_str:mg "str" =none) (m_range:mg "range" =none) (m_len:mg "len" =none):
  ∀n:Nat,Fn P w K mg base "codes" (n+2) ["thing"] (zhk n)
 | 0=>D.never fun vs H Q E h=>by
   obtain ⟨t,v,_,_,_,h1,_⟩:=h
   omega
 | n+1=>by
  have F_codes:=zfU D F_number_of m_isinstance m_int m_str m_range m_len n
  refine D.ok (k:=n+2) zdl (fun vs H Q E h=>?_) (fun f cdv A outer s H vs Q E hr h=>?_)
  ·obtain ⟨t,v,rfl,_⟩:=h;rfl
  obtain ⟨t,v,rfl,hrep,hwf,hdep,hnod,q⟩:=h
  have hlen:=zdw t hwf
  refine ⟨_,(zd (zE (zw za3 (pv 0) zP (zt _))
 (ze (zl (zM (za zb zc))))
 zu)
 (zd (zE (zS (zF (zae) (by rfl) m_isinstance (by rfl) (za (pv 0) (za (zaD (v:=.ty "int") (by rfl) m_int (by rfl) rfl) zc))))
 (zd (zj (i:=1) zdl.nd rfl (Or.inl rfl) (zo zO (pv 0) (zo zaN zb zb)))
 (ze (zl (zM (za zb (za (zo zaG (pv 1) (zo zaN zb zb)) (za (zo z8 (pv 1) (zo zaN zb zb)) zc)))))))
 zu)
 (zd (zE (zS (zF (zae) (by rfl) m_isinstance (by rfl) (za (pv 0) (za (zaD (v:=.ty "str") (by rfl) m_str (by rfl) rfl) zc))))
 (zd (zfZ (i:=2) (zX.one (y:= "thing") (j:=0) (c:=s.heap.objs.size+1) (by rfl) (by rfl) (by decide+kernel) (by decide+kernel) (by rfl) (by decide+kernel) (by rfl) (by decide+kernel) (by rfl) (by first | exact Or.inl rfl | exact Or.inr rfl) (by first | exact Or.inl rfl | exact Or.inr rfl)) rfl (zh4 rfl m_range (za zb (za (zF (za4.or zI zb3) (by rfl) m_len (by rfl) (za (pv 0) zc)) (za zb zc)))) (fun _ _ _=>zcL) (fun _ _ _=>(za1 zlj (pv 1) (zaY (pv 0)) (zaY (zo zO (pv 0) zb)))) zdl.nd rfl (Or.inl rfl) (by rfl))
 (ze (zl (zo zbk (zM (za zb (za (zF (za4.or zI zb3) (by rfl) m_len (by rfl) (za (pv 0) zc)) zc))) (zdj (zX.zero (by rfl) (by decide+kernel) (by decide+kernel) (by decide+kernel) (by rfl)) rfl (zcm (pv 2)) (fun _ _ _=>zcL) (fun _ _ _=>(zC F_number_of hr (by omega) (by rfl) (za (pv 0) zc))))))))
 zu)
 (zd (zj (i:=3) zdl.nd rfl (Or.inl rfl) (zM (za zb (za (zF (za4.or zI zb3) (by rfl) m_len (by rfl) (za (pv 0) zc)) zc))))
 (zd (zaA PassesOwn.never rfl (zeu (pv 0)) (z7 (i:=4) zdl.nd rfl (Or.inl rfl))
 (ze (zaC (zcv PySem.F.plainAttrs_list PySem.F.slot_list_extend PySem.F.type_list_extend zig (pv 3) (za (zC F_codes hr (by omega) (by rfl) (za (pv 4) zc)) zc)))))
 (ze (zl (pv 3)))))))),?_⟩
  refine ⟨_,rfl,rfl,_,rfl,?_⟩
  cases hrep with
  | non=>
   refine ifT (by decide) ?_
   refine ⟨szl (show 1≤1000 by decide),fun p hp=>?_⟩
   exact q p _ (Frm.new hp).same zf
  | int i=>
   refine ifF (by rfl) ?_
   refine ⟨_,rfl,_,_,_,_,rfl,.int i,rfl,_,rfl,?_⟩
   refine ifT rfl ?_
   refine ⟨_,rfl,_,_,rfl,rfl,⟨by decide,by decide,by decide⟩,_,_,rfl,rfl,?_⟩
   refine ⟨_,rfl,_,_,rfl,rfl,⟨by decide,by decide,by decide⟩,_,_,rfl,rfl,⟨by decide+kernel,by decide+kernel⟩,_,rfl,_,_,rfl,rfl,⟨by decide,by decide,by decide⟩,_,_,rfl,rfl,(show (0:Int) < 10 ^ (15:Int).toNat by decide+kernel),szl (show 3≤1000 by decide),fun p hp=>?_⟩
   exact q p _ (Frm.new hp).same zf
  | str x=>
   have hx:x.length≤60:=hwf.1
   refine ifF (by rfl) ?_
   refine ⟨_,rfl,_,_,_,_,rfl,.str x,rfl,_,rfl,?_⟩
   refine ifF rfl ?_
   refine ⟨_,rfl,_,_,_,_,rfl,.str x,rfl,_,rfl,?_⟩
   refine ifT rfl ?_
   refine ⟨_,rfl,.inr ⟨x,rfl,szl (by omega),?_⟩⟩
   refine ⟨_,_,rfl,by omega,by omega,by decide,by decide,fun p hp=>?_⟩
   rw [zhG]
   refine zcS (J:=Itrs 0 7 (zbm x)) (n:=zbm x) (fun i acc H'=>acc=(List.range i).map (fun k=>V.str (zfp x k))∧H'=upd H p (.lst acc)) ⟨rfl,rfl⟩ (by exact fun i acc H' hi _=>hi) (by exact fun acc H' _=>Nat.le_refl _) ?_ ?_
   ·rintro i acc H' y H'' hi ⟨ha,rfl⟩ ⟨e1,e2⟩
    subst e1 e2
    refine tt1 ?_
    refine ⟨_,rfl,_,rfl,_,rfl,_,rfl,_,_,rfl,rfl,_,rfl,x,rfl,szl (by omega),?_⟩
    have hal:acc.length=i:=by rw [ha,List.length_map,List.length_range]
    refine ⟨zf,Nat.lt_of_lt_of_le (show acc.length < 1000 by unfold zbm at hi;omega) (szl (Nat.le_refl _)),nxt hi ⟨?_,zhh⟩⟩
    rw [List.range_succ,List.map_append,ha,zh9 hi]
    rfl
   ·rintro acc H' ⟨ha,rfl⟩
    refine ⟨_,rfl,.inr ⟨x,rfl,szl (by omega),szl (show 2≤1000 by decide),fun p2 hp2=>?_⟩⟩
    have np:p≠p2:=fun z=>by rw [←z,zf] at hp2;cases hp2
    have ep:upd (upd H p (.lst acc)) p2 (.lst [.int 3,.int (x.length:Nat)]) p=some (.lst acc):=by rw [zq np];exact zf
    have hal:acc.length=zbm x:=by rw [ha,List.length_map,List.length_range]
    refine ⟨_,rfl,p,rfl,⟨_,SqL.of ep⟩,fun p3 hp3=>?_⟩
    have np3:p≠p3:=(zr ep hp3)
    have np23:p2≠p3:=(zr zf hp3)
    refine zcS (n:=zbm x) (fun i acc' H'=>acc'=(List.range i).map (fun k=>V.int (numOf (chunk x k)))∧H'=upd (upd (upd H p (.lst acc)) p2 (.lst [.int 3,.int (x.length:Nat)])) p3 (.lst acc')) ⟨rfl,rfl⟩ ?_ ?_ ?_ ?_
    ·rintro i acc' H' hi ⟨_,rfl⟩
     exact ⟨acc,acc[i],SqL.of (by rw [zq np3];exact ep),by rw [List.getElem?_eq_getElem]⟩
    ·rintro acc' H' ⟨_,rfl⟩
     exact ⟨acc,SqL.of (by rw [zq np3];exact ep),by omega⟩
    ·rintro i acc' H' y H'' hi ⟨ha',rfl⟩ ⟨e1,e2⟩
     subst e1
     have ey:=e2 acc (SqL.of (by rw [zq np3];exact ep))
     have ey2:y=V.str (zfp x i):=by
      rw [ha,List.getElem?_map,List.getElem?_range hi] at ey
      exact (Option.some.inj ey).symm
     subst ey2
     refine tt1 ?_
     refine ⟨_,rfl,_,rfl,zf,?_,nxt hi ⟨?_,zhh⟩⟩
     ·have:acc'.length=i:=by rw [ha',List.length_map,List.length_range]
      exact Nat.lt_of_lt_of_le (show acc'.length < 1000 by unfold zbm at hi;omega) (szl (Nat.le_refl _))
     ·rw [List.range_succ,List.map_append,ha']
      rfl
    ·rintro acc' H' ⟨ha',rfl⟩
     have hal':acc'.length=zbm x:=by rw [ha',List.length_map,List.length_range]
     refine ⟨p2,p3,[.int 3,.int (x.length:Nat)],acc',rfl,rfl,by rw [zq np23];exact zf,zf,szl (show 2+acc'.length≤1000 by unfold zbm at hal';omega),fun r hr'=>?_⟩
     refine q r _ (fun b o hb=>?_) ?_
     ·have n1:=zr hb hp
      have e1:upd H p (.lst acc) b=some o:=by rw [zq n1];exact hb
      have n2:=zr e1 hp2
      have e2:upd (upd H p (.lst acc)) p2 (.lst [.int 3,.int (x.length:Nat)]) b=some o:=by rw [zq n2];exact e1
      have n3:=zr e2 hp3
      have e3:upd (upd (upd H p (.lst acc)) p2 (.lst [.int 3,.int (x.length:Nat)])) p3 (.lst acc') b=some o:=by rw [zq n3];exact e2
      rw [zq (zr e3 hr')]
      exact e3
     ·rw [zf,ha']
      show some (HO.lst ([V.int 3,V.int (x.length:Nat)]++_))=some (HO.lst (([3,(x.length:Int)]++zdE x).map V.int))
      rw [List.map_append]
      unfold zdE
      rw [List.map_map]
      rfl
  | @tup a xs ts e hl hrs=>
   have hw:ts.length≤40:=hwf.1
   refine ifF (by rfl) ?_
   refine ⟨_,rfl,_,_,_,_,rfl,.tup e,rfl,_,rfl,?_⟩
   refine ifF rfl ?_
   refine ⟨_,rfl,_,_,_,_,rfl,.tup e,rfl,_,rfl,?_⟩
   refine ifF rfl ?_
   refine ⟨_,rfl,.inl ⟨a,_,rfl,.inr (SqT.of e),szl (show 2≤1000 by decide),fun rw hrw=>?_⟩⟩
   have nra:a≠rw:=zr e hrw
   have keepT:∀{H':Hp},Same H H'→Tups H H':=fun z=>Same.tups z
   refine ⟨_,rfl,a,rfl,⟨_,SqT.of (by rw [zq nra];exact e)⟩,?_⟩
   refine ze8 (xs:=xs) (fun i σ H'=>∃kk,σ=[some (.ref a),none,none,some (.ref rw),kk]∧Same H H'∧H' rw=some (.lst (([4,(ts.length:Int)]++zaz (ts.take i)).map V.int))) ⟨_,rfl,(Frm.new hrw).same,?_⟩ ?_ ?_ ?_
   ·rw [zf,hl]
    rfl
   ·rintro i σ H' hi ⟨kk,rfl,sm,er⟩
    exact SqT.of (sm _ _ e)
   ·rintro i x σ H' hx ⟨kk,rfl,sm,er⟩
    have hil:i < ts.length:=by rw [←hl];exact (List.getElem?_eq_some_iff.mp hx).1
    have ht:ts[i]? =some ts[i]:=List.getElem?_eq_getElem hil
    have hcl:=zcW ts hwf.2
    have hcl':=zco ts i
    have hcn:1+zcr ts≤100:=hnod
    have hsub:nodes ts[i]≤zcr ts:=zei ht
    refine ⟨_,rfl,.inl ⟨rfl,_,SqL.of er⟩,_,rfl,ts[i],x,rfl,(hrs i x _ hx ht).keep (keepT sm),hwf.2.get ht,?_,by omega,fun r H2 sm2 er2=>?_⟩
    ·have:=zbw ht
     have:depL ts+1 < n+1:=hdep
     omega
    have hc1:=zdw ts[i] (hwf.2.get ht)
    refine ⟨rw,r,_,_,rfl,rfl,sm2 _ _ er,er2,szL ?_,?_⟩
    ·simp only [List.length_map,List.length_append,List.length_cons,List.length_nil]
     omega
    ·refine ⟨_,rfl,fun b o hb=>?_,?_⟩
     ·rw [zq (zr hb hrw)]
      exact sm2 _ _ (sm _ _ hb)
     ·rw [zf,zf7 ht]
      simp only [List.map_append,List.append_assoc]
   ·rintro σ H' ⟨kk,rfl,sm,er⟩
    refine ⟨_,rfl,q rw H' sm ?_⟩
    rw [er,hl,List.take_length]
    rfl
theorem zke (D:Dfn K mg "seal" ziU ["thing"]) (F_codes:Fn P w K mg base "codes" 12 ["thing"] (zhk 10)):Fn P w K mg base "seal" 13 ["thing"] zdy:=by
 refine D.ok (k:=12) zfo (fun vs H Q E h=>?_) (fun f cdv A outer s H vs Q E hr h=>?_)
 ·obtain ⟨t,v,rfl,_⟩:=h;rfl
 obtain ⟨t,v,rfl,hrep,hwf,hdep,hnod,q⟩:=h
 refine ⟨_,(zd (zj (i:=1) zfo.nd rfl (Or.inl rfl) zb)
 (zd (zaA PassesOwn.never rfl (zcm (zC F_codes hr (by omega) (by rfl) (za (pv 0) zc))) (z7 (i:=2) zfo.nd rfl (Or.inl rfl))
 (ze (zj (i:=1) zfo.nd rfl (Or.inl rfl) (zo z8 (zo zO (zo zaE (pv 1) zb) (pv 2)) (zo za0 (zo zaN zb zb) zb)))))
 (ze (zl (zo zO (pv 1) zb))))),?_⟩
 refine ⟨_,rfl,t,v,rfl,hrep,hwf,hdep,hnod,fun r H1 sm er=>?_⟩
 refine ⟨r,rfl,⟨_,SqL.of er⟩,?_⟩
 refine zc5 (xs:=(zaP t).map V.int) (fun i σ H'=>H'=H1∧∃kk,σ=[some v,some (.int (zdf ((zaP t).take i))),kk]) ⟨rfl,_,rfl⟩ ?_ ?_ ?_
 ·rintro i σ H' _ ⟨rfl,_⟩
  exact SqL.of er
 ·rintro i x σ H' hx ⟨rfl,kk,rfl⟩
  rw [List.getElem?_map] at hx
  obtain ⟨c,hc,rfl⟩:=Option.map_eq_some_iff.mp hx
  have rg:=zdP ((zaP t).take i)
  have e61:(2:Int) ^ (61:Int).toNat - 1=2305843009213693951:=by decide+kernel
  refine ⟨_,rfl,_,_,rfl,rfl,.inl ⟨by omega,by omega⟩,_,rfl,_,_,rfl,rfl,_,_,rfl,rfl,⟨by decide,by decide,by decide⟩,_,_,rfl,rfl,_,_,rfl,rfl,(show (0:Int) < 2 ^ (61:Int).toNat - 1 by decide+kernel),rfl,some (.int c),?_⟩
  rw [zgQ hc,←e61]
  rfl
 ·rintro σ H' ⟨rfl,kk,rfl⟩
  refine ⟨_,rfl,_,_,rfl,rfl,?_⟩
  rw [List.length_map,List.take_length]
  exact q _ sm
end
end Pv
namespace Pv
open PySem L2
abbrev zef:Stmt:=top 14
abbrev zgS:Stmt:=top 15
abbrev zaU:Stmt:=top 16
theorem zih:zv ["thing"] ["thing"] (zg zef):=⟨rfl,rfl,rfl,by decide+kernel,rfl,by decide+kernel,by decide+kernel⟩
theorem zhw:zv ["one","other","kind"] ["one","other"] (zg zgS):=⟨rfl,rfl,rfl,by decide+kernel,rfl,by decide+kernel,by decide+kernel⟩
theorem za9:zv ["one","other","mine","its"] ["one","other"] (zg zaU):=⟨rfl,rfl,rfl,by decide+kernel,rfl,by decide+kernel,by decide+kernel⟩
def zeb:Sp:=fun vs H Q _=>∃(t:Th) (v:V),vs=[v]∧Rep H t v∧Q (.int (zan t)) H
def zbo (n:Nat):Sp:=fun vs H Q _=>∃(t u:Th) (v w:V),vs=[v,w]∧Rep H t v∧Rep H u w∧dep t < n∧dep t≤40∧∀H':Hp,Same H H'→Q (.bl (zh t u)) H'
def zjC (n:Nat):Sp:=fun vs H Q _=>∃(ts us:List Th) (v w:V),vs=[v,w]∧Rep H (.tup ts) v∧Rep H (.tup us) w∧depL ts < n∧depL ts≤39∧∀H':Hp,Same H H'→Q (.bl (zaO ts us)) H'
section
variable {P:Program}{w:World}{K:PySem.W.Frag}{mg:Str→Option Value}{base:Heap}
theorem zky (D:Dfn K mg "kind_of" zef ["thing"]) (m_isinstance:mg "isinstance" =none) (m_int:mg "int" =none) (m_str:mg "str" =none):Fn P w K mg base "kind_of" 1 ["thing"] zeb:=by
 refine D.ok (k:=0) zih (fun vs H Q E h=>?_) (fun f cdv A outer s H vs Q E hr h=>?_)
 ·obtain ⟨t,v,rfl,_⟩:=h;rfl
 obtain ⟨t,v,rfl,rt,q⟩:=h
 refine ⟨_,(zd (zE (zw za3 (pv 0) zP (zt _))
 (ze (zl zb))
 zu)
 (zd (zE (zS (zF (zae) (by rfl) m_isinstance (by rfl) (za (pv 0) (za (zaD (v:=.ty "int") (by rfl) m_int (by rfl) rfl) zc))))
 (ze (zl zb))
 zu)
 (zd (zE (zS (zF (zae) (by rfl) m_isinstance (by rfl) (za (pv 0) (za (zaD (v:=.ty "str") (by rfl) m_str (by rfl) rfl) zc))))
 (ze (zl zb))
 zu)
 (ze (zl zb))))),?_⟩
 refine ⟨_,rfl,rfl,_,rfl,?_⟩
 cases rt with
 | non=>exact ifT (by decide) q
 | int i=>
  refine ifF (by rfl) ?_
  refine ⟨_,rfl,_,_,_,_,rfl,.int i,rfl,_,rfl,?_⟩
  exact ifT rfl q
 | str x=>
  refine ifF (by rfl) ?_
  refine ⟨_,rfl,_,_,_,_,rfl,.str x,rfl,_,rfl,?_⟩
  refine ifF rfl ?_
  refine ⟨_,rfl,_,_,_,_,rfl,.str x,rfl,_,rfl,?_⟩
  exact ifT rfl q
 | tup e l h=>
  refine ifF (by rfl) ?_
  refine ⟨_,rfl,_,_,_,_,rfl,.tup e,rfl,_,rfl,?_⟩
  refine ifF rfl ?_
  refine ⟨_,rfl,_,_,_,_,rfl,.tup e,rfl,_,rfl,?_⟩
  exact ifF rfl q
theorem zic {n:Nat}(D:Dfn K mg "is_tuple_ahead" zaU ["one","other"]) (F_ahead:Fn P w K mg base "ahead" (2 * n+2) ["one","other"] (zbo n)) (m_zip:mg "zip" =none) (m_len:mg "len" =none):Fn P w K mg base "is_tuple_ahead" (2 * n+3) ["one","other"] (zjC n):=by
 refine D.ok (k:=2 * n+2) za9 (fun vs H Q E h=>?_) (fun f cdv A outer s H vs Q E hr h=>?_)
 ·obtain ⟨ts,us,v,w,rfl,_⟩:=h;rfl
 obtain ⟨ts,us,v,w,rfl,r1,r2,hd,hd40,q⟩:=h
 cases r1 with
 | @tup a xs _ e1 l1 h1=>
 cases r2 with
 | @tup b ys _ e2 l2 h2=>
 refine ⟨_,(zd (zaA PassesOwn.never rfl (zlT (by rfl) m_zip (za (pv 0) (za (pv 1) zc))) (zlh rfl (zcB (z7 (i:=2) za9.nd rfl (Or.inl rfl)) (zcB (z7 (i:=3) za9.nd rfl (Or.inl rfl)) zhn)))
 (ze (zE (zw (zd0 hr) (pv 2) (pv 3) (zt _))
 (ze (zl (zC F_ahead hr (by omega) (by rfl) (za (pv 2) (za (pv 3) zc)))))
 zu)))
 (ze (zl (zQ zcJ (zF (zI) (by rfl) m_len (by rfl) (za (pv 0) zc)) (zF (zI) (by rfl) m_len (by rfl) (za (pv 1) zc)) (zt _))))),?_⟩
 refine ⟨_,rfl,_,rfl,a,b,xs,ys,rfl,SqT.of e1,SqT.of e2,?_⟩
 refine zj8 (K:=K) (p:=a) (q:=b) (xs:=xs) (us:=ys) (fun i σ H'=>∃k2 k3,σ=[some (.ref a),some (.ref b),k2,k3]∧Same H H'∧zaO ts us=zaO (ts.drop i) (us.drop i)) ⟨_,_,rfl,Same.refl _,rfl⟩ ?_ ?_ ?_
 ·rintro i σ H1 ⟨k2,k3,rfl,sm,_⟩
  exact ⟨SqT.of (sm _ _ e1),SqT.of (sm _ _ e2)⟩
 ·rintro i x u T σ H1 hx hu hT ⟨k2,k3,rfl,sm,ea⟩
  have hi:i < ts.length:=by rw [←l1];exact (List.getElem?_eq_some_iff.mp hx).1
  have hj:i < us.length:=by rw [←l2];exact (List.getElem?_eq_some_iff.mp hu).1
  have ht:ts[i]? =some ts[i]:=List.getElem?_eq_getElem hi
  have hv:us[i]? =some us[i]:=List.getElem?_eq_getElem hj
  have tk:Tups H (upd H1 T (.tup [x,u])):=(Same.tups sm).trans (Tups.new hT)
  have ra:=(h1 i x _ hx ht).keep tk
  have rb:=(h2 i u _ hu hv).keep tk
  have hdi:=zbw ht
  refine ⟨T,_,rfl,SqT.of zf,rfl,_,_,rfl,_,_,rfl,rfl,?_⟩
  refine ⟨_,rfl,_,rfl,ts[i],us[i],ra,rb,by omega,_,rfl,?_⟩
  have sm':Same H (upd H1 T (.tup [x,u])):=fun c o hc=>by rw [zq (zr (sm _ _ hc) hT)];exact sm _ _ hc
  rw [zdT hi hj] at ea
  refine ifB (fun c=>?_) (fun c=>?_)
  ·have ne:¬eqT ts[i] us[i]=true:=by
    intro z
    rw [z] at c
    cases c
   rw [if_neg ne] at ea
   refine ⟨_,rfl,_,rfl,ts[i],us[i],_,_,rfl,ra,rb,by omega,by omega,fun H2 s2=>?_⟩
   rw [←ea]
   exact q H2 (sm'.trans s2)
  ·have eq:eqT ts[i] us[i]=true:=by
    cases z:eqT ts[i] us[i] with
    | true=>rfl
    | false=>rw [z] at c;cases c
   rw [if_pos eq] at ea
   exact ⟨_,_,rfl,sm',ea⟩
 ·rintro σ H1 ⟨k2,k3,rfl,sm,ea⟩
  refine ⟨_,rfl,a,_,rfl,.inr (SqT.of (sm _ _ e1)),_,rfl,b,_,rfl,.inr (SqT.of (sm _ _ e2)),_,_,rfl,rfl,?_⟩
  rw [l1,l2,zd8] at ea
  have ed:decide ((xs.length:Int) < (ys.length:Int))=zaO ts us:=by
   rw [ea,l1,l2]
   rw [Bool.eq_iff_iff]
   simp
  show Q (.bl (decide ((xs.length:Int) < (ys.length:Int)))) H1
  rw [ed]
  exact q H1 sm
theorem zgn (Da:Dfn K mg "ahead" zgS ["one","other"]) (Dt:Dfn K mg "is_tuple_ahead" zaU ["one","other"]) (F_kind_of:Fn P w K mg base "kind_of" 1 ["thing"] zeb) (m_zip:mg "zip" =none) (m_len:mg "len" =none) (m_isinstance:mg "isinstance" =none) (m_tuple:mg "tuple" =none):
  ∀n:Nat,Fn P w K mg base "ahead" (2 * n+2) ["one","other"] (zbo n)
 | 0=>Da.never fun vs H Q E h=>by
   obtain ⟨t,u,v,w,_,_,_,h1,_⟩:=h
   omega
 | n+1=>by
  have F_is_tuple_ahead:=zic Dt (zgn Da Dt F_kind_of m_zip m_len m_isinstance m_tuple n) m_zip m_len
  refine Da.ok (k:=2 * n+3) zhw (fun vs H Q E h=>?_) (fun f cdv A outer s H vs Q E hr h=>?_)
  ·obtain ⟨t,u,v,w,rfl,_⟩:=h;rfl
  obtain ⟨t,u,v,w,rfl,r1,r2,hd,hd40,q⟩:=h
  refine ⟨_,(zd (zj (i:=2) zhw.nd rfl (Or.inl rfl) (zC F_kind_of hr (by omega) (by rfl) (za (pv 0) zc)))
 (zd (zE (zw zbu (pv 2) (zC F_kind_of hr (by omega) (by rfl) (za (pv 1) zc)) (zt _))
 (ze (zl (zQ zcJ (pv 2) (zC F_kind_of hr (by omega) (by rfl) (za (pv 1) zc)) (zt _))))
 zu)
 (zd (zE (zw za3 (pv 0) zP (zt _))
 (ze (zl zaM))
 zu)
 (zd (zE (zS (zF (zae) (by rfl) m_isinstance (by rfl) (za (pv 0) (za (zaD (v:=.ty "tuple") (by rfl) m_tuple (by rfl) rfl) zc))))
 (ze (zl (zC F_is_tuple_ahead hr (by omega) (by rfl) (za (pv 0) (za (pv 1) zc)))))
 zu)
 (ze (zl (zQ (OpR.or zcJ zeK) (pv 0) (pv 1) (zt _)))))))),?_⟩
  refine ⟨_,rfl,t,v,rfl,r1,?_⟩
  refine ⟨_,rfl,_,rfl,u,w,rfl,r2,rfl,_,rfl,?_⟩
  rw [zR]
  refine ifB (fun c=>?_) (fun c=>?_)
  ·have ne:zan t≠zan u:=fun z=>by rw [decide_eq_true z] at c;cases c
   refine ⟨_,rfl,_,rfl,u,w,rfl,r2,_,_,rfl,rfl,?_⟩
   show Q (.bl (decide (zan t < zan u))) H
   rw [←zdU ne]
   exact q H (Same.refl _)
  ·have eq:zan t=zan u:=by
    by_cases z:zan t=zan u
    ·exact z
    ·rw [decide_eq_false z] at c;cases c
   refine ⟨_,rfl,rfl,_,rfl,?_⟩
   cases r1 with
   | non=>
    refine ifT (by decide) ?_
    cases r2 with
    | non=>exact q H (Same.refl _)
    | int i=>exact absurd eq (by show (0:Int)≠1;decide)
    | str x=>exact absurd eq (by show (0:Int)≠2;decide)
    | tup e l h=>exact absurd eq (by show (0:Int)≠3;decide)
   | int i=>
    refine ifF (by rfl) ?_
    refine ⟨_,rfl,_,_,_,_,rfl,.int i,rfl,_,rfl,?_⟩
    refine ifF rfl ?_
    cases r2 with
    | non=>exact absurd eq (by show (1:Int)≠0;decide)
    | int j=>exact ⟨_,rfl,_,rfl,.inl ⟨_,_,rfl,rfl,q H (Same.refl _)⟩⟩
    | str x=>exact absurd eq (by show (1:Int)≠2;decide)
    | tup e l h=>exact absurd eq (by show (1:Int)≠3;decide)
   | str x=>
    refine ifF (by rfl) ?_
    refine ⟨_,rfl,_,_,_,_,rfl,.str x,rfl,_,rfl,?_⟩
    refine ifF rfl ?_
    cases r2 with
    | non=>exact absurd eq (by show (2:Int)≠0;decide)
    | int j=>exact absurd eq (by show (2:Int)≠1;decide)
    | str y=>exact ⟨_,rfl,_,rfl,.inr ⟨_,_,rfl,rfl,q H (Same.refl _)⟩⟩
    | tup e l h=>exact absurd eq (by show (2:Int)≠3;decide)
   | @tup a xs ts e l h=>
    refine ifF (by rfl) ?_
    refine ⟨_,rfl,_,_,_,_,rfl,.tup e,rfl,_,rfl,?_⟩
    refine ifT rfl ?_
    cases r2 with
    | non=>exact absurd eq (by show (3:Int)≠0;decide)
    | int j=>exact absurd eq (by show (3:Int)≠1;decide)
    | str y=>exact absurd eq (by show (3:Int)≠2;decide)
    | @tup b ys us e' l' h'=>
     have hd':depL ts+1 < n+1:=hd
     have hd'':depL ts+1≤40:=hd40
     exact ⟨_,rfl,_,rfl,ts,us,_,_,rfl,.tup e l h,.tup e' l' h',by omega,by omega,fun H2 s2=>q H2 s2⟩
end
end Pv
namespace Pv
open PySem L2
def Reps (H:Hp)(ts:List Th)(xs:List V):Prop:=xs.length=ts.length∧∀(i:Nat) (x:V) (t:Th),xs[i]? =some x→ts[i]? =some t→Rep H t x
theorem Reps.keep {H H':Hp}{ts:List Th}{xs:List V}(r:Reps H ts xs)(k:Tups H H'):Reps H' ts xs:=⟨r.1,fun i x t h1 h2=>(r.2 i x t h1 h2).keep k⟩
theorem Reps.snoc {H:Hp}{ts:List Th}{xs:List V}{t:Th}{x:V}(r:Reps H ts xs)(h:Rep H t x):Reps H (ts++ [t]) (xs++ [x]):=by
 refine ⟨by simp [r.1],fun i y u h1 h2=>?_⟩
 have hl:=r.1
 by_cases hi:i < xs.length
 ·rw [List.getElem?_append_left hi] at h1
  rw [List.getElem?_append_left (by omega)] at h2
  exact r.2 i y u h1 h2
 ·rw [List.getElem?_append_right (by omega)] at h1 h2
  cases e:i - xs.length with
  | zero=>
   rw [e] at h1
   rw [show i - ts.length=0 by omega] at h2
   cases h1;cases h2;exact h
  | succ k=>rw [e] at h1;simp at h1
theorem Reps.nil {H:Hp}:Reps H [] []:=⟨rfl,fun i x t h=>by simp at h⟩
theorem Reps.take {H:Hp}{ts:List Th}{xs:List V}(r:Reps H ts xs)(n:Nat):Reps H (ts.take n) (xs.take n):=by
 refine ⟨by rw [List.length_take,List.length_take,r.1],fun i x t h1 h2=>?_⟩
 by_cases hi:i < n
 ·rw [List.getElem?_take_of_lt hi] at h1 h2
  exact r.2 i x t h1 h2
 ·rw [List.getElem?_take_eq_none (by omega)] at h1;cases h1
theorem Reps.drop {H:Hp}{ts:List Th}{xs:List V}(r:Reps H ts xs)(n:Nat):Reps H (ts.drop n) (xs.drop n):=by
 refine ⟨by rw [List.length_drop,List.length_drop,r.1],fun i x t h1 h2=>?_⟩
 rw [List.getElem?_drop] at h1 h2
 exact r.2 _ x t h1 h2
theorem Reps.app {H:Hp}{ts us:List Th}{xs ys:List V}(r:Reps H ts xs)(q:Reps H us ys):Reps H (ts++us) (xs++ys):=by
 refine ⟨by simp [r.1,q.1],fun i x t h1 h2=>?_⟩
 have hl:=r.1
 by_cases hi:i < xs.length
 ·rw [List.getElem?_append_left hi] at h1
  rw [List.getElem?_append_left (by omega)] at h2
  exact r.2 i x t h1 h2
 ·rw [List.getElem?_append_right (by omega)] at h1 h2
  rw [hl] at h1
  exact q.2 _ x t h1 h2
end Pv
namespace L2
open PySem PySem.Spec PyProof.Rows
section
variable {X:Cx}{e:Expr}{es:List Expr}{te:TE}{pos:Pos}
def rJoin:V→List V→Hp→VK→Prop:=fun x vs H Q=>∃z p ys,x=.str z∧vs=[.ref p]∧H p=some (.lst (ys.map V.str))∧(ys.map (·.length)).sum+ys.length * z.length≤16777216∧Q (.str (Str.join z ys)) H
def tFmt (te:TE):TE:=fun σ H Q=>te σ H fun x H1=>(∃y,x=.str y∧y.length≤sizeLine∧Q (.str y) H1)∨∃i:Int,x=.int i∧i.natAbs.log2 < 1920∧Q (.str (toString i)) H1
abbrev TJ:=Str→St→Hp→VK→Prop
def PJ (X:Cx)(es:List Expr)(t:TJ):Prop:=∀(pins:List (Addr ×Obj)) (s:Shared) (σ:St) (H:Hp) (Q:VK) (out:Str),Inv X pins σ H s→t out σ H Q→wpAny (model X.prog X.w) X.A (joinParts out (evalEach es X.env)) (EP X pins σ Q) X.xe s
def tJ (te:TE)(t:TJ):TJ:=fun out σ H Q=>te σ H fun x H1=>∃y,x=.str y∧(out++y).length≤sizeLine∧t (out++y) σ H1 Q
end
end L2
namespace Pv
open PySem L2 PyProof.Rows PySem.NumText
def tx (l:List Nat):Str:=⟨l.toArray⟩
def digs (m:Nat):List Nat:=(Nat.toDigits 10 m).map Char.toNat
def numL (i:Int):List Nat:=(Str.ofString (toString i)).cps.toList
mutual
def wrT:Th→List Nat
 | .non=>[111]
 | .int i=>110::(numL i++ [59])
 | .str x=>116::(numL x.length++58::x.cps.toList)
 | .tup ts=>40::(wrL ts++ [41])
def wrL:List Th→List Nat
 | []=>[]
 | t::r=>wrT t++wrL r
end
end Pv
namespace Pv
open PySem L2 PyProof.Rows PySem.NumText
theorem zgX:∀a b:List Int,HT.lexLt a b=false→HT.lexLt b a=false→a=b
 | [],[],_,_=>rfl
 | [],_::_,h,_=>by cases h
 | _::_,[],_,h=>by cases h
 | x::a,y::b,h1,h2=>by
  rw [HT.lexLt_cons] at h1 h2
  by_cases e:x=y
  ·rw [if_pos e] at h1
   rw [if_pos e.symm] at h2
   rw [e,zgX a b h1 h2]
  ·rw [if_neg e] at h1
   rw [if_neg (fun z=>e z.symm)] at h2
   have:=of_decide_eq_false h1
   have:=of_decide_eq_false h2
   omega
theorem zff:∀a b c:List Int,HT.lexLt a c=true→HT.lexLt a b=true∨HT.lexLt b c=true
 | [],[],[],h=>by cases h
 | [],[],_::_,_=>.inr rfl
 | [],_::_,_,_=>.inl rfl
 | _::_,_,[],h=>by cases h
 | _::_,[],_::_,_=>.inr rfl
 | x::a,y::b,z::c,h=>by
  rw [HT.lexLt_cons] at h
  rw [HT.lexLt_cons,HT.lexLt_cons]
  by_cases e1:x=y
  ·by_cases e2:y=z
   ·rw [if_pos (e1.trans e2)] at h
    rw [if_pos e1,if_pos e2]
    exact zff a b c h
   ·rw [if_neg (fun q=>e2 (e1.symm.trans q))] at h
    rw [if_neg e2]
    have:=of_decide_eq_true h
    exact .inr (decide_eq_true (by omega))
  ·by_cases e2:y=z
   ·rw [if_neg (fun q=>e1 (q.trans e2.symm))] at h
    rw [if_neg e1]
    have:=of_decide_eq_true h
    exact .inl (decide_eq_true (by omega))
   ·rw [if_neg e1,if_neg e2]
    by_cases hx:x < y
    ·exact .inl (decide_eq_true hx)
    ·refine .inr (decide_eq_true ?_)
     by_cases e3:x=z
     ·omega
     ·rw [if_neg e3] at h
      have:=of_decide_eq_true h
      omega
theorem zkq {t u:Th}(h:rowT t=rowT u):t=u:=by
 refine Classical.byContradiction fun ne=>?_
 have e1:=zhj t u [0] [1] ne
 have e2:=zhj t u [1] [0] ne
 rw [h,ze2] at e1 e2
 rw [←e1] at e2
 exact absurd e2 (by decide)
theorem zdB {t u:Th}(h1:zh t u=false)(h2:zh u t=false):t=u:=zkq (zgX _ _ (by rw [zay];exact h1) (by rw [zay];exact h2))
theorem zag {t u:Th}(h:zh t u=true):zh u t=false:=by
 cases e:zh u t with
 | false=>rfl
 | true=>
  rw [←zay] at h e
  have:∀a b:List Int,HT.lexLt a b=true→HT.lexLt b a=true→False:=fun a b=>by
   induction a generalizing b with
   | nil=>
    intro p q
    cases b <;> cases q
   | cons x a ih=>
    intro p q
    cases b with
    | nil=>cases p
    | cons y b=>
     rw [HT.lexLt_cons] at p q
     by_cases z:x=y
     ·rw [if_pos z] at p
      rw [if_pos z.symm] at q
      exact ih b p q
     ·rw [if_neg z] at p
      rw [if_neg (fun k=>z k.symm)] at q
      have:=of_decide_eq_true p
      have:=of_decide_eq_true q
      omega
  exact (this _ _ h e).elim
def leT (t u:Th):Prop:=zh u t=false
theorem leT.refl (t:Th):leT t t:=zab t
theorem leT.trans {t u v:Th}(a:leT t u)(b:leT u v):leT t v:=by
 show zh v t=false
 cases e:zh v t with
 | false=>rfl
 | true=>
  rw [←zay] at e
  rcases zff _ (rowT u) _ e with h | h
  ·rw [zay] at h;rw [show zh v u=false from b] at h;cases h
  ·rw [zay] at h;rw [show zh u t=false from a] at h;cases h
theorem leT.of {t u:Th}(h:zh t u=true):leT t u:=zag h
end Pv
namespace L2
open PySem PySem.Spec PyProof.Rows
def zey (kvs:List (Key ×V)):List Int:=kvs.filterMap fun p=>match p.1 with | .inl n=>some n | .inr _=>none
def IntKeys (kvs:List (Key ×V)):Prop:=kvs.map (·.1)=(zey kvs).map Sum.inl
theorem KV.at {kvs:List (Key ×V)}{vs:List (Key ×Value)}(r:KV kvs vs):kvs.length=vs.length∧kvs.map (·.1)=vs.map (·.1):=by
 unfold KV at r
 induction r with
 | nil=>exact ⟨rfl,rfl⟩
 | cons h _ ih=>exact ⟨by simp [ih.1],by simp [ih.2,h.1]⟩
section
variable {X:Cx}
end
end L2
namespace Pv
open PySem L2
inductive RepL (H:Hp):List Th→List V→Prop where
 | nil:RepL H [] []
 | cons {t:Th} {v:V} {ts:List Th} {vs:List V} (h:Rep H t v) (r:RepL H ts vs):RepL H (t::ts) (v::vs)
theorem RepL.len {H:Hp}:∀{ts:List Th} {vs:List V},RepL H ts vs→vs.length=ts.length
 | _,_,.nil=>rfl
 | _,_,.cons _ r=>by rw [List.length_cons,List.length_cons,r.len]
theorem RepL.at {H:Hp}:∀{ts:List Th} {vs:List V},RepL H ts vs→∀(i:Nat) (x:V) (t:Th),vs[i]? =some x→ts[i]? =some t→Rep H t x
 | _,_,.nil,i,x,t,e,_=>by simp at e
 | _,_,.cons h r,0,x,t,e1,e2=>by
  simp at e1 e2
  subst e1;subst e2
  exact h
 | _,_,.cons h r,i+1,x,t,e1,e2=>r.at i x t (by simpa using e1) (by simpa using e2)
theorem RepL.keep {H H':Hp}(k:Tups H H'):∀{ts:List Th} {vs:List V},RepL H ts vs→RepL H' ts vs
 | _,_,.nil=>.nil
 | _,_,.cons h r=>.cons (h.keep k) (r.keep k)
theorem RepL.new {H:Hp}{ts:List Th}{vs:List V}{p:Addr}(r:RepL H ts vs)(hp:H p=none):Rep (upd H p (.tup vs)) (.tup ts) (.ref p):=
 .tup zf r.len fun i x t e1 e2=>(r.at i x t e1 e2).keep (Tups.new hp)
theorem RepL.of {H:Hp}:∀{ts:List Th} {vs:List V},vs.length=ts.length→(∀(i:Nat) (x:V) (t:Th),vs[i]? =some x→ts[i]? =some t→Rep H t x)→RepL H ts vs
 | [],[],_,_=>.nil
 | t::ts,v::vs,l,h=>.cons (h 0 v t rfl rfl) (RepL.of (by simpa using l) fun i x u e1 e2=>h (i+1) x u (by simpa using e1) (by simpa using e2))
 | [],_::_,l,_=>by simp at l
 | _::_,[],l,_=>by simp at l
theorem Rep.list {H:Hp}{ts:List Th}{v:V}(r:Rep H (.tup ts) v):∃a xs,v=.ref a∧H a=some (.tup xs)∧RepL H ts xs:=by
 cases r with
 | @tup a xs _ e l h=>exact ⟨a,xs,rfl,e,RepL.of l h⟩
theorem RepL.pick {H:Hp}{ts:List Th}{vs:List V}{p:Th→Prop}{i:Int}(r:RepL H ts vs)(h0:0≤i)(h1:i < ts.length)(hp:∀t∈ts,p t):∃v t,atI vs i=some v∧Rep H t v∧p t:=by
 have hl:=r.len
 have hi:i.toNat < ts.length:=by omega
 have hv:i.toNat < vs.length:=by omega
 have ei:i=((i.toNat:Nat):Int):=by omega
 have q:atI vs ((i.toNat:Nat):Int)=some vs[i.toNat]:=zaI (List.getElem?_eq_getElem hv)
 rw [←ei] at q
 exact ⟨_,ts[i.toNat],q,r.at _ _ _ (List.getElem?_eq_getElem hv) (List.getElem?_eq_getElem hi),hp _ (List.getElem_mem hi)⟩
theorem RepL.snoc {H:Hp}{t:Th}{v:V}(h:Rep H t v):∀{ts:List Th} {vs:List V},RepL H ts vs→RepL H (ts++ [t]) (vs++ [v])
 | _,_,.nil=>.cons h .nil
 | _,_,.cons h' r=>.cons h' (r.snoc h)
theorem RepL.uniq {H:Hp}:∀{ts us:List Th} {vs:List V},RepL H ts vs→RepL H us vs→ts=us
 | _,_,_,.nil,.nil=>rfl
 | _,_,_,.cons a r,.cons b q=>by rw [Rep.inj a b,r.uniq q]
open PySem.SeqAt in
theorem zk3 {X:Cx}{pins:List (Addr ×Obj)}{σ:L2.St}{H:Hp}{s:Shared}(I:Inv X pins σ H s){a b:Addr}{xs ys:List V}{ts us:List Th}{A:Around}(e:SqL X.K H a xs)(e':SqL X.K H b ys)(r:RepL H ts xs)(q:RepL H us ys)(hd:∀t∈ts,dep t≤50)(hu:A.units+60 < cLine):
  RcAt A s (.ref a) (.ref b) (eqL ts us)∧RcNeAt A s (.ref a) (.ref b) (!eqL ts us):=by
 obtain ⟨its,r1,T1,_⟩:=I.list e
 obtain ⟨jts,r2,T2,_⟩:=I.list e'
 have n1:=r1.length
 have n2:=r2.length
 have l1:=r.len
 have l2:=q.len
 by_cases hl:ts.length=us.length
 ·have key:∀j (h1:j < its.toArray.size) (h2:j < jts.toArray.size),EqAt A.in1 s its.toArray[j] jts.toArray[j] (eqT (ts[j]?.getD .non) (us[j]?.getD .non)):=fun j h1 h2=>by
   have h1':j < its.length:=by simpa using h1
   have h2':j < jts.length:=by simpa using h2
   obtain ⟨vx,ex,rx⟩:=r1.get (List.getElem?_eq_getElem (show j < xs.length by omega))
   obtain ⟨vy,ey,ry⟩:=r2.get (List.getElem?_eq_getElem (show j < ys.length by omega))
   have g1:ts[j]? =some ts[j]:=List.getElem?_eq_getElem (by omega)
   have g2:us[j]? =some us[j]:=List.getElem?_eq_getElem (by omega)
   have dj:=hd ts[j] (List.getElem_mem (by omega))
   rw [g1,g2]
   have z1:its.toArray[j]=vx:=by
    have:its[j]? =some its[j]:=List.getElem?_eq_getElem h1'
    rw [this] at ex
    simpa using Option.some.inj ex
   have z2:jts.toArray[j]=vy:=by
    have:jts[j]? =some jts[j]:=List.getElem?_eq_getElem h2'
    rw [this] at ey
    simpa using Option.some.inj ey
   rw [z1,z2]
   exact zgA I (r.at j _ _ (List.getElem?_eq_getElem (show j < xs.length by omega)) g1) (q.at j _ _ (List.getElem?_eq_getElem (show j < ys.length by omega)) g2) rx ry (by
    show A.units+1+dep ts[j]+1 < cLine
    omega)
  have hsz:its.toArray.size=jts.toArray.size:=by rw [List.size_toArray,List.size_toArray];omega
  have R:=RcAt.lists T1.isList T2.isList hsz (show A.units < cLine by omega) key
  have R':=RcNeAt.lists T1.isList T2.isList hsz (show A.units < cLine by omega) key
  have e3:(List.range its.toArray.size).all (fun j=>eqT (ts[j]?.getD .non) (us[j]?.getD .non))=eqL ts us:=by
   rw [zcP,List.size_toArray,show min ts.length us.length=its.length by omega,show (ts.length==us.length)=true by rw [hl];exact beq_self_eq_true _,Bool.and_true]
  rw [e3] at R R'
  exact ⟨R,R'⟩
 ·have hne:eqL ts us=false:=by
   cases z:eqL ts us with
   | true=>exact absurd (congrArg List.length ((zfl ts us).mp z)) hl
   | false=>rfl
  have hsz:(its.toArray.size !=jts.toArray.size)=true:=by
   rw [List.size_toArray,List.size_toArray,bne_iff_ne]
   omega
  rw [hne]
  exact ⟨RcAt.lists_lengths T1.isList T2.isList hsz (by omega),RcNeAt.lists_lengths T1.isList T2.isList hsz (by omega)⟩
section
variable {X:Cx}
theorem zmR {k:Nat}(hr:Room k X.A):OpR X (compareOp .Eq) (fun x y H Q=>∃a b xs ys ts us,x=.ref a∧y=.ref b∧SqL X.K H a xs∧SqL X.K H b ys∧RepL H ts xs∧RepL H us ys∧(∀t∈ts,dep t≤50)∧Q (.bl (eqL ts us)) H):=by
 intro pins s σ H x y v w Q I rx ry h
 obtain ⟨a,b,xs,ys,ts,us,rfl,rfl,e1,e2,r1,r2,hd,q⟩:=h
 cases (show v=Value.ref a from rx)
 cases (show w=Value.ref b from ry)
 have hu:=hr.units
 exact (zk3 I e1 e2 r1 r2 hd (by omega)).1 _ _ _ _ ⟨.bl _,H,I,rfl,q⟩
theorem zfb {k:Nat}(hr:Room k X.A):OpR X (compareOp .NotEq) (fun x y H Q=>∃a b xs ys ts us,x=.ref a∧y=.ref b∧SqL X.K H a xs∧SqL X.K H b ys∧RepL H ts xs∧RepL H us ys∧(∀t∈ts,dep t≤50)∧Q (.bl (!eqL ts us)) H):=by
 intro pins s σ H x y v w Q I rx ry h
 obtain ⟨a,b,xs,ys,ts,us,rfl,rfl,e1,e2,r1,r2,hd,q⟩:=h
 cases (show v=Value.ref a from rx)
 cases (show w=Value.ref b from ry)
 have hu:=hr.units
 exact (zk3 I e1 e2 r1 r2 hd (by omega)).2 _ _ _ _ ⟨.bl _,H,I,rfl,q⟩
def mulS (x:Str)(n:Int):Str:=if n < 1 then Str.empty else if (n==1 || x.length==0)=true then x else ⟨(List.replicate n.toNat x.cps).foldl (· ++ ·) #[]⟩
end
end Pv
namespace Pv
open PySem L2
def zL (cs:List (Int ×Th))(n:Int):Option Th:=(cs.find? fun p=>decide (p.1=n)).map (·.2)
inductive DRep (H:Hp):List (Int ×Th)→List (Key ×V)→Prop where
 | nil:DRep H [] []
 | cons {n:Int} {t:Th} {v:V} {cs:List (Int ×Th)} {kvs:List (Key ×V)} (h:Rep H t v) (r:DRep H cs kvs):DRep H ((n,t)::cs) ((.inl n,v)::kvs)
theorem DRep.len {H:Hp}{cs:List (Int ×Th)}{kvs:List (Key ×V)}(r:DRep H cs kvs):kvs.length=cs.length:=by
 induction r with
 | nil=>rfl
 | cons _ _ ih=>rw [List.length_cons,List.length_cons,ih]
theorem DRep.keep {H H':Hp}(k:Tups H H'){cs:List (Int ×Th)}{kvs:List (Key ×V)}(r:DRep H cs kvs):DRep H' cs kvs:=by
 induction r with
 | nil=>exact .nil
 | cons h _ ih=>exact .cons (h.keep k) ih
theorem DRep.keys {H:Hp}{cs:List (Int ×Th)}{kvs:List (Key ×V)}(r:DRep H cs kvs):zey kvs=cs.map (·.1)∧L2.IntKeys kvs:=by
 induction r with
 | nil=>exact ⟨rfl,rfl⟩
 | @cons n t v cs kvs _ _ ih=>
  have e:zey ((.inl n,v)::kvs)=n::zey kvs:=rfl
  refine ⟨by rw [e,ih.1];rfl,?_⟩
  unfold L2.IntKeys
  rw [e,List.map_cons,List.map_cons]
  exact congrArg _ ih.2
theorem zau {n m:Int}{t:Th}{cs:List (Int ×Th)}:zL ((n,t)::cs) m=if n=m then some t else zL cs m:=by
 unfold zL
 rw [List.find?_cons]
 by_cases e:n=m
 ·rw [if_pos e,decide_eq_true e];rfl
 ·rw [if_neg e,decide_eq_false e]
theorem zek {n m:Int}{v:V}{kvs:List (Key ×V)}:valV ((Sum.inl n,v)::kvs) (Sum.inl m:Key)=if n=m then some v else valV kvs (.inl m):=by
 by_cases e:n=m
 ·rw [if_pos e];exact zc7 (by rw [e])
 ·rw [if_neg e]
  unfold valV
  rw [List.find?_cons]
  rw [decide_eq_false (fun z=>e (Sum.inl.inj z))]
theorem DRep.none {H:Hp}{cs:List (Int ×Th)}{kvs:List (Key ×V)}(r:DRep H cs kvs){n:Int}(h:zL cs n=.none):valV kvs (.inl n)=.none:=by
 induction r with
 | nil=>rfl
 | @cons m t v cs kvs _ _ ih=>
  rw [zau] at h
  rw [zek]
  by_cases e:m=n
  ·rw [if_pos e] at h;cases h
  ·rw [if_neg e] at h ⊢;exact ih h
theorem DRep.some {H:Hp}{cs:List (Int ×Th)}{kvs:List (Key ×V)}(r:DRep H cs kvs){n:Int}{t:Th}(h:zL cs n=.some t):∃v,valV kvs (.inl n)=.some v∧Rep H t v:=by
 induction r with
 | nil=>cases h
 | @cons m u v cs kvs hv _ ih=>
  rw [zau] at h
  rw [zek]
  by_cases e:m=n
  ·rw [if_pos e] at h ⊢;cases h;exact ⟨v,rfl,hv⟩
  ·rw [if_neg e] at h ⊢;exact ih h
theorem DRep.back {H:Hp}{cs:List (Int ×Th)}{kvs:List (Key ×V)}(r:DRep H cs kvs){n:Int}{v:V}(h:valV kvs (.inl n)=.some v):∃t,zL cs n=.some t∧Rep H t v:=by
 cases e:zL cs n with
 | none=>rw [r.none e] at h;cases h
 | some t=>
  obtain ⟨v',e',rv⟩:=r.some e
  rw [h] at e';cases e'
  exact ⟨t,rfl,rv⟩
theorem DRep.snoc {H:Hp}{cs:List (Int ×Th)}{kvs:List (Key ×V)}{n:Int}{t:Th}{v:V}(h:Rep H t v)(r:DRep H cs kvs):DRep H (cs++ [(n,t)]) (kvs++ [(.inl n,v)]):=by
 induction r with
 | nil=>exact .cons h .nil
 | cons h' _ ih=>exact .cons h' ih
theorem DRep.put {H:Hp}{cs:List (Int ×Th)}{kvs:List (Key ×V)}{n:Int}{t:Th}{v:V}(r:DRep H cs kvs)(h:Rep H t v)(hn:zL cs n=.none):DRep H (cs++ [(n,t)]) (putK kvs (.inl n) v):=by
 rw [zjU v (r.none hn)]
 exact r.snoc h
theorem DRep.again {H:Hp}{cs:List (Int ×Th)}{kvs:List (Key ×V)}{n:Int}{t:Th}{v:V}(r:DRep H cs kvs)(h:Rep H t v)(hn:zL cs n=.some t)(nd:(cs.map (·.1)).Nodup):DRep H cs (putK kvs (.inl n) v):=by
 have ha:(kvs.any fun kv=>decide (kv.1=(Sum.inl n:Key)))=true:=by
  obtain ⟨v',e,_⟩:=r.some hn
  unfold valV at e
  cases z:kvs.find? fun kv=>decide (kv.1=(Sum.inl n:Key)) with
  | none=>rw [z] at e;cases e
  | some p=>exact List.any_eq_true.mpr ⟨p,List.mem_of_find?_eq_some z,by have:=List.find?_some z;exact this⟩
 unfold putK
 rw [if_pos ha]
 clear ha
 induction r with
 | nil=>exact .nil
 | @cons m u v' cs kvs h' r' ih=>
  have nd':=List.nodup_cons.mp nd
  rw [List.map_cons]
  by_cases e:m=n
  ·subst e
   rw [if_pos rfl]
   rw [zau,if_pos rfl] at hn
   cases hn
   have rest:kvs.map (fun kv=>if kv.1=(Sum.inl m:Key) then (kv.1,v) else kv)=kvs:=by
    have:∀kv∈kvs,(if kv.1=(Sum.inl m:Key) then (kv.1,v) else kv)=kv:=fun kv hkv=>by
     refine if_neg fun z=>nd'.1 ?_
     have e1:=r'.keys
     have m1:(Sum.inl m:Key)∈kvs.map (·.1):=by rw [←z];exact List.mem_map_of_mem hkv
     rw [e1.2,List.mem_map] at m1
     obtain ⟨i,hi,ei⟩:=m1
     cases ei
     rw [←e1.1];exact hi
    rw [List.map_congr_left this,List.map_id']
   rw [rest]
   exact .cons h r'
  ·rw [if_neg (fun z=>e (Sum.inl.inj z))]
   rw [zau,if_neg e] at hn
   exact .cons h' (ih hn nd'.2)
theorem zeT {cs:List (Int ×Th)}{n:Int}{t:Th}(h:zL cs n=some t):(n,t)∈cs:=by
 induction cs with
 | nil=>cases h
 | cons p cs ih=>
  obtain ⟨m,u⟩:=p
  rw [zau] at h
  by_cases e:m=n
  ·rw [if_pos e] at h;cases h;subst e;exact List.mem_cons_self
  ·rw [if_neg e] at h;exact List.mem_cons_of_mem _ (ih h)
theorem zhX {cs:List (Int ×Th)}{n:Int}(h:n∈cs.map (·.1)):∃t,zL cs n=some t:=by
 induction cs with
 | nil=>cases h
 | cons p cs ih=>
  obtain ⟨m,u⟩:=p
  rw [zau]
  by_cases e:m=n
  ·exact ⟨u,if_pos e⟩
  ·rw [if_neg e]
   rw [List.map_cons,List.mem_cons] at h
   exact ih (h.resolve_left fun z=>e z.symm)
theorem zgy {cs:List (Int ×Th)}{n:Int}(h:zL cs n=none):n∉cs.map (·.1):=fun z=>by
 obtain ⟨t,e⟩:=zhX z
 rw [h] at e;cases e
theorem zcV {cs:List (Int ×Th)}{n m:Int}{t:Th}:zL (cs++ [(n,t)]) m=match zL cs m with | some u=>some u | none=>if n=m then some t else none:=by
 induction cs with
 | nil=>rw [List.nil_append,zau];rfl
 | cons p cs ih=>
  obtain ⟨k,u⟩:=p
  rw [List.cons_append,zau,zau]
  by_cases e:k=m
  ·rw [if_pos e,if_pos e]
  ·rw [if_neg e,if_neg e,ih]
def zmZ (cs:List (Int ×Th))(ns:List Int):List Th:=ns.map fun n=>(zL cs n).getD .non
end Pv
namespace L2
open PySem PySem.Spec PyProof.Rows Px
def clsV:V→Value
 | .ty n=>.type n
 | .ref a=>.ref a
 | _=>.none
def Clss (ts:List V):Prop:=∀v∈ts,(∃n,v=.ty n)∨∃a,v=.ref a
theorem zds:∀{ts:List V} {us:List Value},Clss ts→Vals ts us→us=ts.map clsV
 | _,_,_,.nil=>rfl
 | t::ts,u::us,h,.cons r q=>by
  rw [List.map_cons,←zds (fun v hv=>h v (.tail _ hv)) q]
  congr 1
  rcases h t (.head _) with ⟨n,e⟩ | ⟨a,e⟩
  ·subst e;exact r
  ·subst e;exact r
section
variable {X:Cx}{pins:List (Addr ×Obj)}{σ:St}{H:Hp}{s:Shared}
theorem TyOf.kit {x:V}{u t:Value}(I:Inv X pins σ H s)(rx:RelV x u)(ty:TyOf X.K H x t):∃Z:Heap→Prop,PySem.W.KitX X.K u t Z∧Z s.heap∧u≠ .builtin "__main__.__loader__#opaque" :=by
 cases ty with
 | non=>cases (show u=Value.none from rx);exact ⟨_,PySem.W.kitx_none,True.intro,fun z=>nomatch z⟩
 | bl y=>cases (show u=Value.bool y from rx);exact ⟨_,PySem.W.kitx_bool,True.intro,fun z=>nomatch z⟩
 | int i=>obtain ⟨t,q⟩:=(show∃t,u=Value.int i t from rx);cases q;exact ⟨_,PySem.W.kitx_int,True.intro,fun z=>nomatch z⟩
 | str y=>obtain ⟨t,q⟩:=(show∃t,u=Value.str y t from rx);cases q;exact ⟨_,PySem.W.kitx_str,True.intro,fun z=>nomatch z⟩
 | flt y=>obtain ⟨t,q⟩:=(show∃t,u=Value.float y t from rx);cases q;exact ⟨_,PySem.W.kitx_float,True.intro,fun z=>nomatch z⟩
 | @lst a xs ea=>
  cases (show u=Value.ref a from rx)
  obtain ⟨_,_,n,_,h1⟩:=(show z6 X.prog X.w H s.heap a (.lst xs) from I.hok a _ ea)
  exact ⟨_,PySem.W.kitx_list,⟨_,h1,rfl⟩,fun z=>nomatch z⟩
 | @frz a ob xs ea=>
  cases (show u=Value.ref a from rx)
  obtain ⟨_,_,_,n,_,h1⟩:=(show z6 X.prog X.w H s.heap a (.frz ob (.lst xs)) from I.hok a _ ea)
  exact ⟨_,PySem.W.kitx_list,⟨_,h1,rfl⟩,fun z=>nomatch z⟩
 | @tup a xs ea=>
  cases (show u=Value.ref a from rx)
  obtain ⟨_,_,_,p⟩:=(show z6 X.prog X.w H s.heap a (.tup xs) from I.hok a _ ea)
  obtain ⟨o,h1,h2,_⟩:=p
  exact ⟨_,PySem.W.kitx_tuple,⟨o,h1,h2⟩,fun z=>nomatch z⟩
 | @dK a kvs ea=>
  cases (show u=Value.ref a from rx)
  obtain ⟨_,_,vs,_,p⟩:=(show z6 X.prog X.w H s.heap a (.dK kvs) from I.hok a _ ea)
  obtain ⟨o,es,ep,h1,h2,_⟩:=p
  exact ⟨_,PySem.W.kitx_dict,⟨o,h1,h2.1⟩,fun z=>nomatch z⟩
 | @dT a kvs ea=>
  cases (show u=Value.ref a from rx)
  obtain ⟨_,_,xs,_,o,es,ep,h1,h2,_⟩:=(show z6 X.prog X.w H s.heap a (.dT kvs) from I.hok a _ ea)
  exact ⟨_,PySem.W.kitx_dict,⟨o,h1,h2.1⟩,fun z=>nomatch z⟩
 | @ins a C dx fs ea cl ha hn htk hm=>
  cases (show u=Value.ref a from rx)
  obtain ⟨mA,O,_⟩:=zc9 I.hok ea
  obtain ⟨od,J,_⟩:=O.look
  exact ⟨_,PySem.W.kitx_own (cl.get _) cl.hd ha hn htk hm,J,fun z=>nomatch z⟩
end
section
variable {X:Cx}
def zlJ (K:PySem.W.Frag):List V→Hp→VK→Prop:=fun xs H Q=>∃x p ts t b,xs=[x,.ref p]∧H p=some (.tup ts)∧Clss ts∧TyOf K H x t∧PySem.W.kitAny K t (ts.map clsV)=some b∧Q (.bl b) H
theorem zfa:za4 X (.builtin "isinstance") (zlJ X.K):=by
 intro pins s σ H xs us Q I r h
 obtain ⟨x,p,ts,t,b,rfl,ep,cl,ty,e,q⟩:=h
 obtain ⟨u,w',rfl,ru,rw'⟩:=vals2 r
 cases (show w'=Value.ref p from rw')
 obtain ⟨Z,kx,z,ne⟩:=ty.kit I ru
 obtain ⟨_,its,vs,o,h1,h2,n,h3⟩:=(show z6 X.prog X.w H s.heap p (.tup ts) from I.hok p _ ep)
 have ei:=zds cl vs
 obtain ⟨c0,d0,dt,sl⟩:=o
 dsimp only at h2 h3
 subst h2;subst h3
 exact PySem.W.kia_tup kx I.kIn z h1 (by rw [ei];exact e) ne fun tk=>⟨.bl b,H,I.tok tk,rfl,q⟩
end
end L2
namespace L2
open PySem PySem.Spec PyProof.Rows Px
section
variable {K:PySem.W.Frag}{h:Heap}{mg:Str→Option Value}{C f:Addr}{x m qual:Str}{st:Stmt}{ps:List Str}{od an:Option Addr}{sl:Array (Option Value)}{oc kV dc pm cd ct:Value}
theorem zgp (a:PySem.W.findIn K (.ref C) m=some (some (.ref f)))(fn:PySem.W.isFn K (.ref f)=true)(l:K.lookup f=some ⟨oc,od,.func (PySem.W.fnOf m qual (zav st) (zY st) (zg st) .none kV dc pm an cd ct),sl⟩)(c:PySem.W.codeIn K cd qual=true)(k:PySem.W.keepIn K (.ref f)=true)
  (b:∀(kV doc pm:Value) (an:Option Addr) (cdv ct:Value) (us:List Value),us.length=ps.length→bindArgs (PySem.W.fnOf m qual (zav st) (zY st) (zg st) .none kV doc pm an cdv ct) ⟨us,[]⟩=pure (ps.zip us)):Mdf K C m qual st ps:=
 ⟨_,_,zcn l c k,(zcn l c k).binds b,⟨a,fn,k⟩⟩
theorem zlX (pg:PySem.W.plainGet K C Str.empty=true)(hd:PySem.W.hasDictIn K C=true)(po:PySem.W.plainOver K C=true)(sa:PySem.W.findIn K (.ref C) "__setattr__" =some (some (.builtin "object.__setattr__"))):Cls K C:=⟨pg,hd,po,sa⟩
theorem zl2 (X:K.In h)(G:h.Ns mainGlobals mg)(n:PySem.W.nsIn K mainGlobals x=some (some (.ref C)))(mk:PySem.W.makesIn K C=true)(a:PySem.W.findIn K (.ref C) "__init__" =some (some (.ref f))) (fn:PySem.W.isFn K (.ref f)=true)
  (l:K.lookup f=some ⟨oc,od,.func (PySem.W.fnOf "__init__" qual (zav st) (zY st) (zg st) .none kV dc pm an cd ct),sl⟩) (c:PySem.W.codeIn K cd qual=true) (k:PySem.W.keepIn K (.ref f)=true) (kc:PySem.W.keepIn K (.ref C)=true)
  (b:∀(kV doc pm:Value) (an:Option Addr) (cdv ct:Value) (us:List Value),us.length=ps.length→bindArgs (PySem.W.fnOf "__init__" qual (zav st) (zY st) (zg st) .none kV doc pm an cdv ct) ⟨us,[]⟩=pure (ps.zip us)):Mkd K mg x C qual st ps:=
 ⟨_,_,zcn l c k,(zcn l c k).binds b,⟨mk,a,fn,kc⟩,PySem.W.mg_of X G n⟩
theorem zc6 (q:xIn K C=true)(ov:zdm K C=true)(sa:PySem.W.findIn K (.ref C) "__setattr__" =some (some (.builtin "object.__setattr__"))) (ga:PySem.W.findIn K (.ref C) "__getattribute__" =some (some (.builtin "BaseException.__getattribute__"))) (gn:PySem.W.findIn K (.ref C) "__getattr__" =some none)
  (kp:PySem.W.keepIn K (.ref C)=true):XCls K C:=⟨q,ov,sa,ga,gn,kp⟩
theorem zlm (X:K.In h)(G:h.Ns mainGlobals mg)(n:PySem.W.nsIn K mainGlobals x=some (some (.ref C)))(cl:XCls K C)(a:PySem.W.findIn K (.ref C) "__init__" =some (some (.ref f))) (fn:PySem.W.isFn K (.ref f)=true)
  (l:K.lookup f=some ⟨oc,od,.func (PySem.W.fnOf "__init__" qual (zav st) (zY st) (zg st) .none kV dc pm an cd ct),sl⟩) (c:PySem.W.codeIn K cd qual=true) (k:PySem.W.keepIn K (.ref f)=true)
  (b:∀(kV doc pm:Value) (an:Option Addr) (cdv ct:Value) (us:List Value),us.length=ps.length→bindArgs (PySem.W.fnOf "__init__" qual (zav st) (zY st) (zg st) .none kV doc pm an cdv ct) ⟨us,[]⟩=pure (ps.zip us)):XId K mg x C qual st ps:=
 ⟨cl,_,_,zcn l c k,(zcn l c k).binds b,a,fn,PySem.W.mg_of X G n⟩
theorem zbz {R:Addr→Prop}(X:K.In h)(n:PySem.W.nsIn K mainGlobals x=some (some (.ref C)))(r:R C):∃C,R C:=⟨C,r⟩
end
end L2
namespace Px
open PySem PySem.W PySem.Builtin PySem.Builtin.ObjectAttr
theorem zkc {K:Frag}{C:Addr}{od:Option Obj}{name:Str}{a g:Value}(hc:(clsIn K C).isSome=true)(ha:findIn K (.ref C) name=some (some a))(hg:specialIn K a "__get__" =some (some g))
  (ht:takesIn K a=some true):findObj K C od name=some (.bind g a):=by
 obtain ⟨c,e⟩:=Option.isSome_iff_exists.mp hc
 unfold findObj
 rw [e,Option.bind_some,ha,Option.bind_some]
 simp [hg,ht]
section
variable {prog:Program}{w:World}{A:Around}{E:Value→Shared→Prop}{s:Shared}{K:Frag}{x D:Addr}{ox:Obj}{od:Option Obj}
theorem zi8 {Q:Option Value→Shared→Prop}(X:K.In s.heap)(I:InstAt s.heap x ox D od)(hp:zdm K D=true)
  (hga:findIn K (.ref D) "__getattribute__" =some (some (.builtin "BaseException.__getattribute__"))) (hgn:findIn K (.ref D) "__getattr__" =some none)
  (ha:findIn K (.ref D) "__class__" =some (some (.builtin "object.__class__"))) (hn:specialIn K (.builtin "object.__class__") "__get__" =some (some (.builtin "getset_descriptor.__get__")))
  (htk:takesIn K (.builtin "object.__class__")=some true) (hm:mroIn K D (.type "object")=some true) (h:Q (some (.ref D)) {s with toks:=s.toks+1}):wpAny (model prog w) A (getAttr? (.ref x) "__class__") Q E s:=by
 have isB:=zgF (M:=model prog w) (T:= "BaseException") X I hp (by decide)
 have cd:(clsIn K D).isSome=true:=by obtain ⟨c,hc,_⟩:=any_some hp;rw [hc];rfl
 have hf:findObj K D od "__class__" =some (.bind (.builtin "getset_descriptor.__get__") (.builtin "object.__class__")):=zkc cd ha hn htk
 obtain ⟨hp',g,d,t,os⟩:=s
 have L0:=I.type (M:=model prog w)
 have L1:=looks_findIn (M:=model prog w) X hga
 have L2:=looks_findIn (M:=model prog w) X hgn
 have L3:=looks_find (M:=model prog w) X I hf
 have FB:=PySem.F.attrBase_ValueError
 have bi:=FB.ga.bind (.ref x)
 have kd:builtinKind "BaseException.__getattribute__" =some .slot:=by decide+kernel
 have sp:splitId "BaseException.__getattribute__" =some ("BaseException","__getattribute__"):=by decide+kernel
 unfold getAttr? getAttrBy? getAttrBy
 refine wpAny_bind (wpAny_mkText (wpAny_bind (wpAny_attempt (wpAny_holding (wpAny_bind (L0.at (wpAny_bind (L1.at ?_))))))))
 have nb:(onTheHeap (Value.ref D) && Value.builtin "BaseException.__getattribute__" ==Value.builtin "object.__getattribute__")=false:=by
  rw [show (Value.builtin "BaseException.__getattribute__" ==Value.builtin "object.__getattribute__")=false from by decide+kernel,Bool.and_false]
 dsimp only
 rw [nb,if_neg Bool.false_ne_true]
 unfold getAttrByItsOwn
 refine wpAny_bind ?_
 show wpAny _ _ (typeLookup (.ref D) "__getattr__") _ _ _
 refine L2.at ?_
 unfold callGetattribute
 rw [Bool.false_and,if_neg Bool.false_ne_true]
 unfold boundAndCalled
 refine wpAny_bind (wpAny_attempt (wpAny_holding ?_))
 rw [bi]
 refine wpAny_bind (wpAny_pure ?_)
 refine wpAny_call (codeAny_call_builtin FB.ga.plain PySem.F.entry_bexc_ga (@check_slot (model prog w) _ _ _ "BaseException.__getattribute__" "BaseException" "__getattribute__" (.ref x) [.str "__class__" t] [] _ kd sp isB (PySem.F.args_bexc_ga _ _) ?_))
 unfold Builtin.«object.__getattribute__»
 repeat (any_goals (first | assumption | with_reducible refine wpAny_bind (L0.at ?_) | with_reducible refine wpAny_bind (L3.at ?_) | wp_step))
 refine class_get X I hm ?_
 show wpAny _ _ (ret (.ref D)) _ _ _
 refine wpAny_pure ?_
 show wpAny _ _ (handedOut (.ref D)) _ _ _
 exact wpAny_pure (wpAny_pure h)
theorem zf3 {K:Frag}{x D:Addr}{ox:Obj}{od:Option Obj}(hp:zdm K D=true)
  (hga:findIn K (.ref D) "__getattribute__" =some (some (.builtin "BaseException.__getattribute__"))) (hgn:findIn K (.ref D) "__getattr__" =some none)
  (ha:findIn K (.ref D) "__class__" =some (some (.builtin "object.__class__"))) (hn:specialIn K (.builtin "object.__class__") "__get__" =some (some (.builtin "getset_descriptor.__get__")))
  (htk:takesIn K (.builtin "object.__class__")=some true) (hm:mroIn K D (.type "object")=some true):KitX K (.ref x) (.ref D) (fun h=>InstAt h x ox D od) where
 ty:=fun _ _ _ I=>I.type
 it:=fun _ _ X _=>by
  obtain ⟨c,hc,_⟩:=any_some hp
  unfold clsIn at hc
  split at hc
  ·rename_i ho
   intro A' Q' E' s' k q
   unfold isType loadHead
   exact wpAny_bind (wpAny_loadPart (k _ _ (X _ _ ho)) (wpAny_pure q))
  ·cases hc
 ne:=fun h tp dd its n sl X ht=>by
  obtain ⟨c,hc,_⟩:=any_some hp
  refine Bool.eq_false_iff.mpr fun q=>?_
  have e:D=tp:=Value.ref.inj (beq_iff_eq.mp q)
  subst e
  unfold clsIn at hc
  split at hc
  ·rename_i ho
   have z:=(X _ _ ho).symm.trans ht
   cases z
  ·cases hc
 ca:=fun X I k=>zi8 X I hp hga hgn ha hn htk hm k
end
end Px
namespace L2
open PySem PySem.Spec PyProof.Rows Px
structure zit (K:PySem.W.Frag)(C:Addr):Prop where
 cl:XCls K C
 ha:PySem.W.findIn K (.ref C) "__class__" =some (some (.builtin "object.__class__"))
 hn:PySem.W.specialIn K (.builtin "object.__class__") "__get__" =some (some (.builtin "getset_descriptor.__get__"))
 ht:PySem.W.takesIn K (.builtin "object.__class__")=some true
 hm:PySem.W.mroIn K C (.type "object")=some true
section
variable {X:Cx}{pins:List (Addr ×Obj)}{σ:St}{H:Hp}{s:Shared}{a C:Addr}{od:Option Addr}{fr:Bool}
theorem zkw (I:Inv X pins σ H s)(e:H a=some (exO a C od fr))(k:zit X.K C)(hd:∀d,od=some d→∃l,H d=some (xdO d l)):∃Z:Heap→Prop,PySem.W.KitX X.K (.ref a) (.ref C) Z∧Z s.heap:=by
 obtain ⟨vs,sl,ge,_⟩:=zcg I.hok e
 cases od with
 | none=>exact ⟨_,zf3 (od:=none) k.cl.ov k.cl.ga k.cl.gn k.ha k.hn k.ht k.hm,⟨ge,rfl,rfl,trivial⟩⟩
 | some d=>
  obtain ⟨l,ed⟩:=hd d rfl
  obtain ⟨mA,ns,_,_⟩:=ze1 I.hok ed
  obtain ⟨ob,hob,_⟩:=zdD ns
  exact ⟨_,zf3 (od:=some ob) k.cl.ov k.cl.ga k.cl.gn k.ha k.hn k.ht k.hm,⟨ge,rfl,rfl,hob⟩⟩
def zi3 (K:PySem.W.Frag):List V→Hp→VK→Prop:=fun xs H Q=>∃a C od fr y b,xs=[.ref a,y]∧H a=some (exO a C od fr)∧zit K C∧(∀d,od=some d→∃l,H d=some (xdO d l))∧Q (.bl b) H∧
 ((∃c,(y=.ty c∧PySem.W.kitOne K (.ref C) (.type c)=some b))∨(∃c,(y=.ref c∧PySem.W.kitOne K (.ref C) (.ref c)=some b))∨∃p ts,y=.ref p∧H p=some (.tup ts)∧Clss ts∧PySem.W.kitAny K (.ref C) (ts.map clsV)=some b)
theorem zfC:za4 X (.builtin "isinstance") (zi3 X.K):=by
 intro pins s σ H xs us Q I r h
 obtain ⟨a,C,od,fr,y,b,rfl,ea,k,hd,q,hy⟩:=h
 obtain ⟨u,w',rfl,ru,rw'⟩:=vals2 r
 cases (show u=Value.ref a from ru)
 obtain ⟨Z,kx,z⟩:=zkw I ea k hd
 rcases hy with ⟨c,rfl,e⟩ | ⟨c,rfl,e⟩ | ⟨p,ts,rfl,ep,cl,e⟩
 ·cases (show w'=Value.type c from rw')
  exact PySem.W.kia_one kx I.kIn z e (fun y=>nomatch y) fun tk=>⟨.bl b,H,I.tok tk,rfl,q⟩
 ·cases (show w'=Value.ref c from rw')
  exact PySem.W.kia_one kx I.kIn z e (fun y=>nomatch y) fun tk=>⟨.bl b,H,I.tok tk,rfl,q⟩
 ·cases (show w'=Value.ref p from rw')
  obtain ⟨_,its,vs,o,h1,h2,n,h3⟩:=(show z6 X.prog X.w H s.heap p (.tup ts) from I.hok p _ ep)
  have ei:=zds cl vs
  obtain ⟨c0,d0,dt,sl⟩:=o
  dsimp only at h2 h3
  subst h2;subst h3
  exact PySem.W.kia_tup kx I.kIn z h1 (by rw [ei];exact e) (fun y=>nomatch y) fun tk=>⟨.bl b,H,I.tok tk,rfl,q⟩
end
section
variable {X:Cx}{x n:Str}{cv:Value}{body suite:List Stmt}{b₀:Stmt}{np hpos pos:Pos}{tb:(St→XK)→TS}{ts:TS}
end
end L2
namespace L2
open PySem PySem.Spec PyProof.Rows
section
variable {X:Cx}{x y1 y2:Str}{scope:Scope}{j1 j2:Nat}{c1 c2:Addr}
theorem zX.two (clos:closureFor scope X.env=pure [(y1,c1),(y2,c2)])(kind:scope.kind=.function)(nc:∀y∈scope.names,y.2≠ .cell)(nm:∀y∈scope.names,y.2=.local→scope.names.lookup y.1=some .local)(tgt:scope.names.lookup x=some .local)
  (n1:x≠y1) (n2:x≠y2) (n12:y1≠y2) (e1:X.env.cells.lookup y1=some c1) (e2:X.env.cells.lookup y2=some c2) (only:∀q∈scope.names,q.2=.free→q.1=y1∨q.1=y2) (h1:X.N[j1]? =some y1) (h2:X.N[j2]? =some y2)
  (k1:X.env.kindOf y1=some .cell∨X.env.kindOf y1=some .free) (k2:X.env.kindOf y2=some .cell∨X.env.kindOf y2=some .free)
  (r1:(relabel scope X.env).names.lookup y1=some .cell∨(relabel scope X.env).names.lookup y1=some .free) (r2:(relabel scope X.env).names.lookup y2=some .cell∨(relabel scope X.env).names.lookup y2=some .free):
  zX X x [y1,y2] [j1,j2] scope [(y1,c1),(y2,c2)] where
 clos:=clos
 kind:=kind
 nocell:=nc
 names:=nm
 tgt:=tgt
 nd:=by simp [n1,n2,n12]
 sub:=fun p hp=>by
  rcases List.mem_cons.mp hp with z | z
  ·rw [z];exact e1
  ·rw [List.mem_singleton.mp z];exact e2
 has:=fun p hp hk=>by
  have key:∀q:Str ×NameKind,q∈scope.names→q.2=.free→q.1∈ [(y1,c1),(y2,c2)].map (·.1):=fun q hq z=>by
   rcases only q hq z with z | z <;> simp [z]
  obtain ⟨q,hq,e,h | h⟩:=zcH hp
  ·subst h
   rcases hk with hk | hk
   ·exact absurd hk (nc _ hq)
   ·exact key _ hq hk
  ·rw [e];exact key _ hq h
 fr:=fun i z e=>by
  match i,e with
  | 0,e=>cases e;exact ⟨j1,rfl,h1,k1,r1⟩
  | 1,e=>cases e;exact ⟨j2,rfl,h2,k2,r2⟩
  | i+2,e=>simp at e
 len:=rfl
end
end L2
namespace Pv
open PySem L2
abbrev zaT:Stmt:=inClass (top 57) 0
theorem zdJ:zv ["self"] ["self"] (zg zaT):=⟨rfl,rfl,rfl,by decide+kernel,rfl,by decide+kernel,by decide+kernel⟩
abbrev zaq:Stmt:=inClass (top 57) 1
theorem zct:zv ["self","number","thing"] ["self","number","thing"] (zg zaq):=⟨rfl,rfl,rfl,by decide+kernel,rfl,by decide+kernel,by decide+kernel⟩
abbrev zb1:Stmt:=inClass (top 57) 2
theorem zdQ:zv ["self","thing","number"] ["self","thing"] (zg zb1):=⟨rfl,rfl,rfl,by decide+kernel,rfl,by decide+kernel,by decide+kernel⟩
abbrev zbp:Stmt:=inClass (top 57) 3
theorem zeF:zv ["self","number"] ["self","number"] (zg zbp):=⟨rfl,rfl,rfl,by decide+kernel,rfl,by decide+kernel,by decide+kernel⟩
abbrev zaS:Stmt:=inClass (top 5) 0
theorem zdH:zv ["self","one","other"] ["self","one","other"] (zg zaS):=⟨rfl,rfl,rfl,by decide+kernel,rfl,by decide+kernel,by decide+kernel⟩
structure Good (t:Th):Prop where
 wf:Wf t
 dp:dep t≤8
 nd:nodes t≤80
structure Flds (fs:List (Str ×V))(d:Addr):Prop where
 la:fs.lookup ("laid" :Str)=some (V.ref d)
 n1:fs.lookup ("refuse_clash" :Str)=none
 n2:fs.lookup ("lay" :Str)=none
 n3:fs.lookup ("thing" :Str)=none
 n4:fs.lookup ("things" :Str)=none
 n5:fs.lookup ("paper" :Str)=none
theorem zma (d:Addr):Flds [("laid",.ref d)] d:=⟨rfl,rfl,rfl,rfl,rfl,rfl⟩
structure VOk (H:Hp)(C a d:Addr)(kvs:List (Key ×V)):Prop where
 ob:∃dx fs,H a=some (.ins C dx fs)∧Flds fs d
 di:H d=some (.dK kvs)
theorem VOk.keep {H H':Hp}{C a d:Addr}{kvs:List (Key ×V)}(v:VOk H C a d kvs)(s:Same H H'):VOk H' C a d kvs:=by
 obtain ⟨⟨dx,fs,e,f⟩,e2⟩:=v
 exact ⟨⟨dx,fs,s _ _ e,f⟩,s _ _ e2⟩
def zdq (H:Hp)(kvs:List (Key ×V)):Prop:=∀(n:Int) (v:V),valV kvs (.inl n)=some v→∃t,Rep H t v∧Good t∧zy t=n
theorem zdq.keep {H H':Hp}{kvs:List (Key ×V)}(l:zdq H kvs)(s:Tups H H'):zdq H' kvs:=fun n v e=>by
 obtain ⟨t,r,g⟩:=l n v e
 exact ⟨t,r.keep s,g⟩
def zg0 (E:XK)(CC:Addr)(H:Hp)(t1 t2:Th)(v1 v2:V):Prop:=∀(H':Hp) (x:Addr),Same H H'→H' x=some (xdO x [("one",v1),("other",v2)])→E (.ref CC) (some x) H'
def zfd (C:Addr):Sp:=fun vs H Q _=>∃(a dx:Addr),vs=[.ref a]∧H a=some (.ins C dx [])∧∀d,H d=none→Q .non (upd (upd H d (.dK [])) a (.ins C dx [("laid",.ref d)]))
def zgW (CC:Addr):Sp:=fun vs H Q _=>∃(x:Addr) (v1 v2:V),vs=[.ref x,v1,v2]∧H x=some (exO x CC none true)∧
 ∀d,H d=none→d≠x→Q .non (upd (upd (upd H d (xdO d [("one",v1)])) x (exO x CC (some d) true)) d (xdO d [("one",v1),("other",v2)]))
def zfT (C CC:Addr):Sp:=fun vs H Q E=>∃(a d:Addr) (kvs:List (Key ×V)) (n:Int) (t:Th) (v:V),vs=[.ref a,.int n,v]∧VOk H C a d kvs∧zdq H kvs∧Rep H t v∧Good t∧zy t=n∧
 ((∀t1 v1,valV kvs (.inl n)=some v1→Rep H t1 v1→t1=t)→Q .non H)∧
 (∀t1 v1,valV kvs (.inl n)=some v1→Rep H t1 v1→Good t1→zy t1=zy t→t1≠t→zg0 E CC H t1 t v1 v)
def zk7 (C CC:Addr):Sp:=fun vs H Q E=>∃(a d:Addr) (kvs:List (Key ×V)) (t:Th) (v:V),vs=[.ref a,v]∧VOk H C a d kvs∧zdq H kvs∧kvs.length≤1000000∧Rep H t v∧Good t∧
 (∀H',Same H H'→(∀t1 v1,valV kvs (.inl (zy t))=some v1→Rep H t1 v1→t1=t)→Q (.int (zy t)) (upd H' d (.dK (putK kvs (.inl (zy t)) v))))∧
 (∀t1 v1 H',Same H H'→valV kvs (.inl (zy t))=some v1→Rep H' t1 v1→Good t1→zy t1=zy t→t1≠t→zg0 E CC H' t1 t v1 v)
def zmC (C:Addr):Sp:=fun vs H Q _=>∃(a d:Addr) (kvs:List (Key ×V)) (n:Int) (v:V),vs=[.ref a,.int n]∧VOk H C a d kvs∧valV kvs (.inl n)=some v∧Q v H
def zfK (C CN:Addr):Sp:=fun vs H Q E=>∃(a d:Addr) (kvs:List (Key ×V)) (n:Int),vs=[.ref a,.int n]∧VOk H C a d kvs∧(∀v,valV kvs (.inl n)=some v→Q v H)∧(valV kvs (.inl n)=none→E (.ref CN) none H)
theorem DRep.laidOk {H:Hp}{cs:List (Int ×Th)}{kvs:List (Key ×V)}(r:DRep H cs kvs)(g:∀p∈cs,Good p.2∧zy p.2=p.1):zdq H kvs:=fun n v e=>by
 obtain ⟨t,e1,rv⟩:=r.back e
 obtain ⟨g1,g2⟩:=g _ (zeT e1)
 exact ⟨t,rv,g1,g2⟩
theorem zjT (v1 v2:V):putF ("other" :Str) v2 [(("one" :Str),v1)]=[(("one" :Str),v1),(("other" :Str),v2)]:=by
 unfold putF
 rw [if_neg (by decide)]
 rfl
theorem Rep.uniq {H:Hp}{t u:Th}{v:V}(r:Rep H t v):Rep H u v→t=u:=by
 induction r generalizing u with
 | non=>intro q;cases q;rfl
 | int i=>intro q;cases q;rfl
 | str x=>intro q;cases q;rfl
 | @tup a xs ts e l h ih=>
  intro q
  cases q with
  | @tup _ ys us e' l' h'=>
   rw [e] at e'
   cases e'
   congr 1
   apply List.ext_getElem?
   intro i
   by_cases hi:i < ts.length
   ·have h1:ts[i]? =some ts[i]:=List.getElem?_eq_getElem hi
    have h2:us[i]? =some us[i]:=List.getElem?_eq_getElem (by omega)
    have h3:xs[i]? =some xs[i]:=List.getElem?_eq_getElem (by omega)
    rw [h1,h2,ih i _ _ h3 h1 (h' i _ _ h3 h2)]
   ·rw [List.getElem?_eq_none (by omega),List.getElem?_eq_none (by omega)]
section
variable {P:Program}{w:World}{K:PySem.W.Frag}{mg:Str→Option Value}{base:Heap}{C CC:Addr}{x:Str}
theorem ziW (D:Mkd K mg x C "Vault.__init__" zaT ["self"]) (c:Cls K C) (nl:zaf K C "laid"):Mkr P w K mg base x C 1 ["self"] (zfd C):=by
 refine D.ok (k:=0) zdJ (fun vs H Q E h=>?_) (fun f cdv A outer s H vs Q E hr h=>?_)
 ·obtain ⟨a,dx,rfl,_⟩:=h;rfl
 obtain ⟨a,dx,rfl,ea,q⟩:=h
 refine ⟨_,(ze (zl5 (pv 0) zjG (by rfl))),?_⟩
 intro d hd
 exact ⟨_,rfl,a,C,dx,[],rfl,by rw [zq (zr ea hd)];exact ea,c,nl,by decide,q d hd⟩
theorem zjj (D:XId K mg "Clash" CC "Clash.__init__" zaS ["self","one","other"]) (n1:zaf K CC "one") (n2:zaf K CC "other"):XI P w K mg base "Clash" CC 1 ["self","one","other"] (zgW CC):=by
 have c:=D.cl
 refine D.ok (k:=0) zdH (fun vs H Q E h=>?_) (fun f cdv A outer s H vs Q E hr h=>?_)
 ·obtain ⟨x,v1,v2,rfl,_⟩:=h;rfl
 obtain ⟨x,v1,v2,rfl,ex,q⟩:=h
 refine ⟨_,(zd (zlG (pv 0) (pv 1) (by rfl))
 (ze (zlU (pv 0) (pv 2) (by rfl)))),?_⟩
 refine ⟨_,rfl,_,rfl,x,CC,true,rfl,ex,c,n1,fun d hd hdx=>?_⟩
 refine ⟨_,rfl,_,rfl,x,CC,true,d,[("one",v1)],rfl,zf,by rw [zq hdx];exact zf,hdx,c,n2,(show (1:Nat) < 1000 by decide),?_⟩
 show Q .non (upd _ d (xdO d (putF "other" v2 [("one",v1)])))
 rw [zjT]
 exact q d hd hdx
theorem zhH (D:Mdf K C "refuse_clash" "Vault.refuse_clash" zaq ["self","number","thing"]) (X_Clash:XI P w K mg base "Clash" CC 1 ["self","one","other"] (zgW CC)) (c:Cls K C) (nl:zaf K C "laid"):
  Mt P w K mg base (CX1 P w) C "refuse_clash" 3 ["self","number","thing"] (zfT C CC):=by
 refine D.okX (k:=2) zct (fun vs H Q E h=>?_) (fun f cdv A outer s H vs Q E hr h=>?_)
 ·obtain ⟨a,d,kvs,n,t,v,rfl,_⟩:=h;rfl
 obtain ⟨a,d,kvs,n,t,v,rfl,vo,lo,rt,gt,sn,q,qe⟩:=h
 obtain ⟨⟨dx,fs,eo,fl⟩,ed⟩:=vo
 refine ⟨_,(ze (zE (PW.pt (zfg (zi2 (zl3 (zeS hr) (pv 1) (zdp (pv 0) (by rfl)))) (zd1 (zw (zd0 hr) (zfx (zeS hr) (zdp (pv 0) (by rfl)) (pv 1) (fun _ _=>rfl)) (pv 2) (zt _)))))
 (ze (zdb zdg rfl (zmo X_Clash hr (by omega) (by rfl) (za (zfx (zeS hr) (zdp (pv 0) (by rfl)) (pv 1) (fun _ _=>rfl)) (za (pv 2) zc)))))
 zu)),?_⟩
 refine ⟨_,rfl,_,rfl,a,C,dx,_,_,rfl,eo,c,nl,fl.la,d,_,rfl,DGet.k (k:=Sum.inl n) ed,_,rfl,?_⟩
 cases ev:valV kvs (Sum.inl n) with
 | none=>exact ifF rfl (ifF rfl (q fun t1 v1 e=>by rw [ev] at e;cases e))
 | some v1=>
  obtain ⟨t1,r1,g1,s1⟩:=lo n v1 ev
  have gd:=g1.dp
  have dg:DGet H d (.int n) (some v1):=by rw [←ev];exact DGet.k (k:=Sum.inl n) ed
  refine ifT rfl ?_
  refine ⟨_,rfl,a,C,dx,_,_,rfl,eo,c,nl,fl.la,_,rfl,d,v1,rfl,dg,_,rfl,t1,t,r1,rt,by omega,_,rfl,?_⟩
  refine ifB (fun cc=>?_) (fun cc=>?_)
  ·have ne:t1≠t:=fun z=>by rw [z,zao] at cc;cases cc
   refine ⟨_,rfl,a,C,dx,_,_,rfl,eo,c,nl,fl.la,_,rfl,d,v1,rfl,dg,_,rfl,szl (show 2≤1000 by decide),fun x hx=>?_⟩
   refine ⟨x,v1,v,rfl,zf,fun d' hd' hdx=>⟨rfl,?_⟩⟩
   have hd2:H d'=none:=by rw [zq hdx] at hd';exact hd'
   refine ⟨x,CC,some d',rfl,by rw [zq (Ne.symm hdx)];exact zf,X_Clash.cl.q,?_⟩
   refine qe t1 v1 ev r1 g1 (s1.trans sn.symm) ne _ d' (fun b o hb=>?_) ?_
   ·have b1:b≠x:=zr hb hx
    have b2:b≠d':=zr hb hd2
    rw [zbv b1,zq b2,zq b1,zq b2,zq b1];exact hb
   ·rw [zbv hdx];exact zf
  ·have eq:t1=t:=(zaX t1 t).mp (by cases z:eqT t1 t with | true=>rfl | false=>rw [z] at cc;cases cc)
   exact q fun t2 v2 e r2=>by rw [ev] at e;cases e;exact (r2.uniq r1).trans eq
theorem zlP (D:Mdf K C "lay" "Vault.lay" zb1 ["self","thing"]) (M_refuse_clash:Mt P w K mg base (CX1 P w) C "refuse_clash" 3 ["self","number","thing"] (zfT C CC)) (F_seal:Fn P w K mg base "seal" 13 ["thing"] zdy) (c_K:Cls K C) (nl:zaf K C "laid"):
  Mt P w K mg base (CX1 P w) C "lay" 14 ["self","thing"] (zk7 C CC):=by
 refine D.okX (k:=13) zdQ (fun vs H Q E h=>?_) (fun f cdv A outer s H vs Q E hr h=>?_)
 ·obtain ⟨a,d,kvs,t,v,rfl,_⟩:=h;rfl
 obtain ⟨a,d,kvs,t,v,rfl,vo,lo,hl,rt,gt,q,qe⟩:=h
 have gd:=gt.dp
 have gn:=gt.nd
 refine ⟨_,(zd (zj (i:=2) zdQ.nd rfl (Or.inl rfl) (zC F_seal hr (by omega) (by rfl) (za (pv 1) zc)))
 (zd (zaC (zbR (pv 0) c_K M_refuse_clash hr (by omega) zD (za (pv 2) (za (pv 1) zc))))
 (zd (zj6 (zeS hr) (zdp (pv 0) (by rfl)) (pv 2) (pv 1) (by rfl))
 (ze (zl (pv 2)))))),?_⟩
 refine ⟨_,rfl,t,v,rfl,rt,gt.wf,by omega,by omega,fun H1 s1=>?_⟩
 have vo1:=vo.keep s1
 obtain ⟨⟨dx,fs,eo,fl⟩,ed⟩:=id vo1
 have rt1:=rt.keep (Same.tups s1)
 refine ⟨_,rfl,a,dx,_,rfl,eo,fl.n1,_,rfl,_,rfl,a,d,kvs,_,t,v,rfl,vo1,lo.keep (Same.tups s1),rt1,gt,rfl,fun same=>?_,fun t1 v1 ev r1 g1 sn ne=>qe t1 v1 H1 s1 ev r1 g1 sn ne⟩
 refine ⟨_,rfl,_,rfl,a,C,dx,_,_,rfl,eo,c_K,nl,fl.la,_,rfl,d,_,rfl,DPut.k (k:=Sum.inl (zy t)) ed (Nat.lt_of_le_of_lt hl (by decide+kernel)),?_⟩
 exact ⟨_,rfl,q H1 s1 fun t1 v1 e r=>same t1 v1 e (r.keep (Same.tups s1))⟩
theorem zhD {CN:Addr}(D:Mdf K C "thing" "Vault.thing" zbp ["self","number"]) (X_NoPaper:XP K mg "NoPaper" CN) (c:Cls K C) (nl:zaf K C "laid"):Mt P w K mg base (CX1 P w) C "thing" 1 ["self","number"] (zfK C CN):=by
 refine D.okX (k:=0) zeF (fun vs H Q E h=>?_) (fun f cdv A outer s H vs Q E hr h=>?_)
 ·obtain ⟨a,d,kvs,n,rfl,_⟩:=h;rfl
 obtain ⟨a,d,kvs,n,rfl,⟨⟨dx,fs,eo,fl⟩,ed⟩,q,qe⟩:=h
 refine ⟨_,(zd (zE (zi2 (zij (zeS hr) (pv 1) (zdp (pv 0) (by rfl))))
 (ze (zdb zdg rfl (zjE X_NoPaper (by rfl) (za zah zc))))
 zu)
 (ze (zl (zfx (zeS hr) (zdp (pv 0) (by rfl)) (pv 1) (fun _ _=>rfl))))),?_⟩
 refine ⟨_,rfl,_,rfl,a,C,dx,_,_,rfl,eo,c,nl,fl.la,d,_,rfl,DGet.k (k:=Sum.inl n) ed,_,rfl,?_⟩
 cases ev:valV kvs (Sum.inl n) with
 | none=>
  refine ifT rfl ⟨szl (show 1≤1000 by decide),fun e he=>⟨e,CN,none,rfl,zf,X_NoPaper.cl.q,?_⟩⟩
  rw [zd2 he]
  exact qe ev
 | some v=>
  have dg:DGet H d (.int n) (some v):=by rw [←ev];exact DGet.k (k:=Sum.inl n) ed
  refine ifF rfl ?_
  exact ⟨_,rfl,a,C,dx,_,_,rfl,eo,c,nl,fl.la,_,rfl,d,v,rfl,dg,q v ev⟩
end
end Pv
namespace Pv
open PySem L2
def addT (cs:List (Int ×Th))(n:Int)(t:Th):List (Int ×Th):=match zL cs n with | none=>cs++ [(n,t)] | some _=>cs
def Fits (cs:List (Int ×Th))(n:Int)(t:Th):Prop:=zL cs n=none∨zL cs n=some t
structure GoodC (cs:List (Int ×Th)):Prop where
 nd:(cs.map (·.1)).Nodup
 gd:∀p∈cs,Good p.2∧zy p.2=p.1
theorem zbT {cs:List (Int ×Th)}{n:Int}{t:Th}(h:zL cs n=none):addT cs n t=cs++ [(n,t)]:=by unfold addT;rw [h]
theorem zcu {cs:List (Int ×Th)}{n:Int}{t u:Th}(h:zL cs n=some u):addT cs n t=cs:=by unfold addT;rw [h]
theorem zbf (cs:List (Int ×Th))(n:Int)(t:Th):(addT cs n t).length≤cs.length+1:=by
 cases e:zL cs n with
 | none=>rw [zbT e,List.length_append];exact Nat.le_refl _
 | some u=>rw [zcu e];omega
theorem DRep.add {H:Hp}{cs:List (Int ×Th)}{kvs:List (Key ×V)}{n:Int}{t:Th}{v:V}(r:DRep H cs kvs)(h:Rep H t v)(f:Fits cs n t)(nd:(cs.map (·.1)).Nodup):DRep H (addT cs n t) (putK kvs (.inl n) v):=by
 rcases f with f | f
 ·rw [zbT f];exact r.put h f
 ·rw [zcu f];exact r.again h f nd
theorem GoodC.add {cs:List (Int ×Th)}{n:Int}{t:Th}(g:GoodC cs)(gt:Good t)(sn:zy t=n):GoodC (addT cs n t):=by
 cases e:zL cs n with
 | some u=>rw [zcu e];exact g
 | none=>
  rw [zbT e]
  refine ⟨?_,fun p hp=>?_⟩
  ·rw [List.map_append,List.nodup_append]
   refine ⟨g.nd,by simp,fun a ha b hb=>?_⟩
   cases List.mem_singleton.mp hb
   exact fun z=>zgy e (by have z':a=n:=z;rw [←z'];exact ha)
  ·rcases List.mem_append.mp hp with h | h
   ·exact g.gd p h
   ·cases List.mem_singleton.mp h
    exact ⟨gt,sn⟩
theorem GoodC.nil:GoodC []:=⟨List.nodup_nil,fun p h=>by cases h⟩
theorem GoodC.dep {cs:List (Int ×Th)}{n:Int}{t:Th}(g:GoodC cs)(e:zL cs n=some t):Good t∧zy t=n:=g.gd _ (zeT e)
theorem zaJ {cs:List (Int ×Th)}{n m:Int}{t u:Th}(e:zL cs m=some u):zL (addT cs n t) m=some u:=by
 cases z:zL cs n with
 | some y=>rw [zcu z];exact e
 | none=>rw [zbT z,zcV,e]
theorem zam {cs:List (Int ×Th)}{n:Int}{t:Th}(f:Fits cs n t):zL (addT cs n t) n=some t:=by
 rcases f with f | f
 ·rw [zbT f,zcV,f];exact if_pos rfl
 ·rw [zcu f];exact f
end Pv
namespace Pv
open PySem L2
theorem zeR {a c:Th}(b:Th)(h:zh a c=true):zh a b=true∨zh b c=true:=by
 rw [←zay] at h
 rw [←zay,←zay]
 exact zff _ _ _ h
theorem zdR {a b c:Th}(h1:zh a b=true)(h2:zh b c=true):zh a c=true:=by
 rcases zeR c h1 with h | h
 ·exact h
 ·rw [zag h2] at h;cases h
theorem ziC {a b:Th}(h:zh a b=false)(n:a≠b):zh b a=true:=by
 cases e:zh b a with
 | true=>rfl
 | false=>exact absurd (zdB h e) n
def zcz (t:Th):Int:=zy (.tup [.str ("rank" :Str),t])
def zaV (t u:Th):Bool:=if zcz t=zcz u then zh t u else decide (zcz u < zcz t)
abbrev z9 (k wo:Th)(l r c:Int):Th:=.tup [k,wo,.int l,.int r,.int c]
theorem zax (t:Th):1≤zy t∧zy t≤2305843009213693951:=by
 have:=zdP (zaP t)
 unfold zy
 omega
structure KeyT (t:Th):Prop where
 wf:Wf t
 dp:dep t≤3
 nd:nodes t≤10
 ne:t≠ .non
instance decTh:DecidableEq Th:=fun t u=>decidable_of_iff _ (zaX t u)
inductive Tr where
 | nil:Tr
 | node (l:Tr) (k w:Th) (r:Tr):Tr
namespace Tr
def ps:Tr→List (Th ×Th)
 | nil=>[]
 | node l k w r=>l.ps++(k,w)::r.ps
def root:Tr→Int
 | nil=>0
 | node l k w r=>zy (z9 k w l.root r.root (((l.ps++(k,w)::r.ps).length:Nat):Int))
abbrev cnt (T:Tr):Nat:=T.ps.length
def thing:Tr→Th
 | nil=>.non
 | node l k w r=>z9 k w l.root r.root (((l.ps++(k,w)::r.ps).length:Nat):Int)
def InV (cs:List (Int ×Th)):Tr→Prop
 | nil=>True
 | node l k w r=>zL cs (node l k w r).root=some (node l k w r).thing∧l.InV cs∧r.InV cs
def kid (x:Th):Tr→Tr
 | nil=>nil
 | node l k _ r=>if zh k x=true then r else l
def down (x:Th):Nat→Tr→Tr
 | 0,T=>T
 | n+1,T=>down x n (T.kid x)
def plug (x:Th):Nat→Tr→Tr→Tr
 | 0,_,S=>S
 | _+1,nil,_=>nil
 | n+1,node l k w r,S=>if zh k x=true then node l k w (plug x n r S) else node (plug x n l S) k w r
def spl (x:Th):Nat→Tr→Tr ×Tr
 | 0,T=>(T,nil)
 | _+1,nil=>(nil,nil)
 | n+1,node l k w r=>if zh k x=true then (node l k w (spl x n r).1,(spl x n r).2) else ((spl x n l).1,node (spl x n l).2 k w r)
def wl (x:Th):Tr→Nat
 | nil=>0
 | node l k _ r=>if k=x then 1 else (if zh k x=true then r.wl x else l.wl x)+1
def own (x:Th):Tr→Tr
 | nil=>nil
 | node l k w r=>if k=x then node l k w r else if zh k x=true then r.own x else l.own x
end Tr
open Tr
theorem zcx (l:Tr)(k w:Th)(r:Tr):(node l k w r).cnt=l.cnt+r.cnt+1:=by
 show (l.ps++(k,w)::r.ps).length=_
 rw [List.length_append,List.length_cons]
 show l.ps.length+(r.ps.length+1)=l.ps.length+r.ps.length+1
 omega
def Sub (cs cs':List (Int ×Th)):Prop:=∀n t,zL cs n=some t→zL cs' n=some t
theorem Sub.refl (cs:List (Int ×Th)):Sub cs cs:=fun _ _ h=>h
theorem Sub.trans {a b c:List (Int ×Th)}(h:Sub a b)(h':Sub b c):Sub a c:=fun n t e=>h' n t (h n t e)
theorem InV.mono {cs cs':List (Int ×Th)}(s:Sub cs cs'):∀{T:Tr},T.InV cs→T.InV cs'
 | nil,_=>trivial
 | node _ _ _ _,h=>⟨s _ _ h.1,InV.mono s h.2.1,InV.mono s h.2.2⟩
def Srt (ps:List (Th ×Th)):Prop:=ps.Pairwise fun p q=>zh p.1 q.1=true
theorem ziw {l:Tr}{k w:Th}{r:Tr}(h:Srt (node l k w r).ps):Srt l.ps∧Srt r.ps∧(∀p∈l.ps,zh p.1 k=true)∧(∀p∈r.ps,zh k p.1=true):=by
 have h':Srt (l.ps++(k,w)::r.ps):=h
 obtain ⟨h1,h2,h3⟩:=List.pairwise_append.mp h'
 obtain ⟨h4,h5⟩:=List.pairwise_cons.mp h2
 exact ⟨h1,h5,fun p hp=>h3 p hp _ List.mem_cons_self,fun p hp=>h4 p hp⟩
def lo (ps:List (Th ×Th))(x:Th):List (Th ×Th):=ps.filter fun p=>zh p.1 x
def hi (ps:List (Th ×Th))(x:Th):List (Th ×Th):=ps.filter fun p=>zh x p.1
def hiE (ps:List (Th ×Th))(x:Th):List (Th ×Th):=ps.filter fun p=>!zh p.1 x
def insP (ps:List (Th ×Th))(x w:Th):List (Th ×Th):=lo ps x++(x,w)::hi ps x
theorem zdv (a b:List (Th ×Th))(x:Th):lo (a++b) x=lo a x++lo b x:=List.filter_append ..
theorem zdr (a b:List (Th ×Th))(x:Th):hi (a++b) x=hi a x++hi b x:=List.filter_append ..
theorem ziG {a:List (Th ×Th)}{x:Th}(h:∀p∈a,zh p.1 x=true):lo a x=a:=List.filter_eq_self.mpr h
theorem zjK {a:List (Th ×Th)}{x:Th}(h:∀p∈a,zh x p.1=true):hi a x=a:=List.filter_eq_self.mpr h
theorem zhe {a:List (Th ×Th)}{x:Th}(h:∀p∈a,zh p.1 x=false):lo a x=[]:=List.filter_eq_nil_iff.mpr fun p hp=>by rw [h p hp];exact Bool.false_ne_true
theorem zgY {a:List (Th ×Th)}{x:Th}(h:∀p∈a,zh x p.1=false):hi a x=[]:=List.filter_eq_nil_iff.mpr fun p hp=>by rw [h p hp];exact Bool.false_ne_true
theorem zmJ {p:Th ×Th}{a:List (Th ×Th)}{x:Th}(h:zh p.1 x=false):lo (p::a) x=lo a x:=List.filter_cons_of_neg (by rw [h];exact Bool.false_ne_true)
theorem zmi {p:Th ×Th}{a:List (Th ×Th)}{x:Th}(h:zh x p.1=false):hi (p::a) x=hi a x:=List.filter_cons_of_neg (by rw [h];exact Bool.false_ne_true)
theorem zhf {A M B:List (Th ×Th)}{x w:Th}(hA:∀p∈A,zh p.1 x=true)(hB:∀p∈B,zh x p.1=true):insP (A++M++B) x w=A++insP M x w++B:=by
 unfold insP
 rw [zdv,zdv,zdr,zdr,ziG hA,zjK hB,zgY (a:=A) fun p hp=>zag (hA p hp),zhe (a:=B) fun p hp=>zag (hB p hp)]
 simp
theorem zh8 {l r:List (Th ×Th)}{k w w':Th}(hl:∀p∈l,zh p.1 k=true)(hr:∀p∈r,zh k p.1=true):insP (l++(k,w)::r) k w'=l++(k,w')::r:=by
 unfold insP
 rw [zdv,zdr,ziG hl,zmJ (zab k),zmi (zab k),zjK hr,zhe (a:=r) fun p hp=>zag (hr p hp),zgY (a:=l) fun p hp=>zag (hl p hp)]
 simp
def Up (x:Th):Nat→Tr→Prop
 | 0,_=>True
 | _+1,nil=>False
 | n+1,node l k _ r=>k≠x∧Up x n (if zh k x=true then r else l)
def Tr.plc (x:Th):Tr→Nat
 | nil=>0
 | node l k _ r=>if zaV x k=true then 0 else (if zh k x=true then r.plc x else l.plc x)+1
def Tr.putT (x w:Th)(T:Tr):Tr:=
 match own x T with
 | node l _ _ r=>plug x (wl x T - 1) T (node l x w r)
 | nil=>plug x (plc x T) T (node (spl x (wl x T - plc x T) (down x (plc x T) T)).1 x w (spl x (wl x T - plc x T) (down x (plc x T) T)).2)
theorem zeh {ps:List (Th ×Th)}(h:Srt ps)(f:Th ×Th→Bool):Srt (ps.filter f):=List.Pairwise.filter f h
theorem zkJ {ps:List (Th ×Th)}{x w:Th}(h:Srt ps):Srt (insP ps x w):=by
 refine List.pairwise_append.mpr ⟨zeh h _,List.pairwise_cons.mpr ⟨fun p hp=>(List.mem_filter.mp hp).2,zeh h _⟩,fun p hp q hq=>?_⟩
 have a:=(List.mem_filter.mp hp).2
 rcases List.mem_cons.mp hq with rfl | hq
 ·exact a
 ·exact zdR a (List.mem_filter.mp hq).2
theorem zkd {ps:List (Th ×Th)}{x w:Th}:(insP ps x w).length≤ps.length+1:=by
 unfold insP lo hi
 rw [List.length_append,List.length_cons]
 have:∀qs:List (Th ×Th),(qs.filter fun p=>zh p.1 x).length+(qs.filter fun p=>zh x p.1).length≤qs.length:=fun qs=>by
  induction qs with
  | nil=>exact Nat.le_refl _
  | cons q qs ih=>
   rw [List.filter_cons,List.filter_cons]
   cases a:zh q.1 x with
   | true=>
    rw [zag a]
    show (q::qs.filter _).length+(qs.filter _).length≤_
    rw [List.length_cons,List.length_cons];omega
   | false=>
    show (qs.filter _).length+(if zh x q.1=true then q::qs.filter _ else qs.filter _).length≤_
    split
    ·rw [List.length_cons,List.length_cons];omega
    ·rw [List.length_cons];omega
 have:=this ps
 omega
theorem zg9 {ps:List (Th ×Th)}{x w:Th}{p:Th ×Th}(h:p∈insP ps x w):p∈ps∨p=(x,w):=by
 rcases List.mem_append.mp h with h | h
 ·exact .inl (List.mem_filter.mp h).1
 ·rcases List.mem_cons.mp h with h | h
  ·exact .inr h
  ·exact .inl (List.mem_filter.mp h).1
end Pv
namespace L2
open PySem PySem.Spec PyProof.Rows Px
structure ClsM (K:PySem.W.Frag)(mg:Str→Option Value)(x:Str)(V:Addr)(mc:Value)(m:Str)(f:Addr):Prop where
 mg:mg x=some (.ref V)
 sp:PySem.W.specialIn K (.ref V) "__getattribute__" =some (some (.builtin "type.__getattribute__"))
 rd:PySem.W.readsIn K V mc=true
 fc:PySem.W.findCls K (.ref V) mc m=some (.val (.ref f))
 kp:PySem.W.keepIn K (.ref f)=true
structure Kdf (K:PySem.W.Frag)(mg:Str→Option Value)(x m qual:Str)(st:Stmt)(ps:List Str):Prop where
 ex:∃f fd V mc,Fun K m qual st f fd∧Binds K fd ps []∧ClsM K mg x V mc m f
structure Kfn (P:Program)(w:World)(K:PySem.W.Frag)(mg:Str→Option Value)(base:Heap)(x m:Str)(k:Nat)(ps:List Str)(sp:Sp):Prop where
 ex:∃f fd V mc,FnOk P w K mg base CX0 k f fd ps sp∧Binds K fd ps []∧ClsM K mg x V mc m f
section
variable {P:Program}{w:World}{K:PySem.W.Frag}{mg:Str→Option Value}{base:Heap}{x m qual:Str}{st:Stmt}{ps N:List Str}{sp:Sp}{k:Nat}
theorem Kdf.ok (D:Kdf K mg x m qual st ps)(S:zv N ps (zg st))(len:∀vs H Q E,sp vs H Q E→vs.length=ps.length)
  (hbody:∀(f:Addr) (cdv:Value) (A:Around) (outer:List Env) (s:Shared) (H:Hp) (vs:List V) (Q:VK) (E:XK),Room k (A.deeper (envOfC qual (zg st) s.heap.objs.size f cdv))→sp vs H Q E→
   ∃t,PSs (cxOf CX0 P w K mg base N qual (zg st) f cdv A outer s H E).nox (zY st) t∧t {nx:=fun _ H'=>Q .non H',rt:=Q} (start N vs) H):Kfn P w K mg base x m (k+1) ps sp:=by
 obtain ⟨f,fd,V,mc,F,b,me⟩:=D.ex
 exact ⟨f,fd,V,mc,F.ok S len (fun cdv A outer s H vs Q E hr h=>hbody f cdv A outer s H vs Q E hr h),b,me⟩
variable {f V:Addr}{mc:Value}{od an:Option Addr}{sl:Array (Option Value)}{oc kV dc pm cd ct:Value}{h:Heap}
end
section
variable {X:Cx}{x m:Str}{ps:List Str}{sp:Sp}{k k':Nat}{e:Expr}{es:List Expr}{t:TA}{p pos apos:Pos}
end
end L2
namespace L2
open PySem PySem.Spec PyProof.Rows
def zlc (K:PySem.W.Frag)(J:It)(p:Addr)(tt:TT)(te:TE)(H1:Hp)(Q:VK):Prop:=
 ∃W:Nat→Nat→List V→Hp→Prop,(∃m,W 0 m [] (upd H1 p (.lst [])))∧∀i m acc H,W i m acc H→
  (J.stop i H∧Q (.ref p) H)∨(J.go i H∧∀x H',J.yld i H x H'→∃a y z,x=.ref a∧SqT K H' a [y,z]∧tt [some y,some z] H' fun ok H2=>
   if ok=true then te [some y,some z] H2 fun v H3=>H3 p=some (.lst acc)∧acc.length < sizeLine∧∃m',m' < m∧W (i+1) m' (acc++ [v]) (upd H3 p (.lst (acc++ [v])))
   else∃m',m' < m∧W (i+1) m' acc H2)
def zmW (K:PySem.W.Frag)(wi:TI)(tt:TT)(te:TE):TE:=fun σ H Q=>wi σ H fun J H1=>∀p,H1 p=none→zlc K J p tt te H1 Q
section
variable {X:Cx}{x x2:Str}{scope:Scope}{pins:List (Addr ×Obj)}{σ:St}{H:Hp}{s:Shared}
variable {iter elt:Expr}{ifs:List Expr}{px px2 tpos pos:Pos}{kt:Nat}{wi:TI}{tt:TT}{te:TE}
end
end L2
namespace L2
open PySem PySem.Spec PyProof.Rows
theorem za7 {X:Cx}:zbH (CX1 X.prog X.w) X E0:=fun _ _ _ _ _ _ _ h=>by
 obtain ⟨ea,cls,od,H',T,h⟩:=h
 simp only [E0,and_false] at h
end L2
namespace L2
open PySem PySem.Spec PyProof.Rows
structure PEw (X:Cx)(e:Expr)(t:TE):Prop where
 h:PE X e t
structure PAw (X:Cx)(es:List Expr)(t:TA):Prop where
 h:PA X es t
structure PPw (X:Cx)(pos:Pos)(keys:List (Option Expr))(values:List Expr)(trs:List (TE ×TE)):Prop where
 h:PPs X pos keys values trs
structure PSw (X:Cx)(st:Stmt)(t:TS):Prop where
 h:PS X st t
structure PSq (X:Cx)(st:List Stmt)(t:TS):Prop where
 h:PSs X st t
section
variable {X:Cx}
end
end L2
namespace L2
open PySem PySem.Spec PyProof.Rows
section
variable {X:Cx}{pins:List (Addr ×Obj)}{σ:St}{H:Hp}{s:Shared}{d:Addr}{kvs:List (Key ×V)}{o:Obj}
theorem Inv.thaw (I:Inv X pins σ H s)(e:H d=some (.frz o (.dK kvs)))(n0:∀ob u,X.H₀ d≠some (.frz ob u)):Inv X pins σ (upd H d (.dK kvs)) s:=by
 have nd:∀b,H b=none→b≠d:=fun b hb z=>by rw [z,e] at hb;cases hb
 refine ⟨I.ok,I.os,I.bare,⟨I.base.keep,I.base.slot,fun b ob h1 h2 h3=>?_,I.base.there,fun b xs h=>?_,fun b ob u h=>?_,fun b ps h=>?_⟩,I.loc,I.cell,?_,fun x c h=>?_,fun p hp=>?_,fun a u h=>?_,I.len⟩
 ·have:=I.base.free b ob h1 h2 h3
  rw [zq (nd b this)];exact this
 ·have:=I.base.tups b xs h
  rw [zq (zbg this e (by intro z;cases z))];exact this
 ·have:=I.base.frzs b ob u h
  have bd:b≠d:=fun z=>n0 ob u (by rw [←z];exact h)
  rw [zq bd];exact this
 ·obtain ⟨more,this⟩:=I.base.tbls b ps h
  exact ⟨more,by rw [zq (zbg this e (by intro z;cases z))];exact this⟩
 ·rw [zq (nd _ I.free)];exact I.free
 ·rw [zq (nd _ (I.freeC x c h))];exact I.freeC x c h
 ·obtain ⟨a,b,c⟩:=I.pin p hp
  exact ⟨a,by rw [zq (nd _ b)];exact b,c⟩
 ·by_cases z:a=d
  ·subst z
   rw [zf] at h
   cases h
   obtain ⟨_,q⟩:=I.hok a _ e
   exact q
  ·rw [zq z] at h
   exact (I.hok a u h).stay (fun b v _ q=>q) (fun b q=>by rw [zq (zbg q e (by intro z;cases z))];exact q) fun b xs q=>by rw [zq (zbg q e (by intro z;cases z))];exact q
end
def Itd (d:Addr)(o:Obj)(kvs:List (Key ×V)):It:=⟨fun i H=>H d=some (.frz o (.dK kvs))∧i < (zey kvs).length,fun i H x H'=>H'=H∧∃n,(zey kvs)[i]? =some n∧x=.int n,fun i H=>H d=some (.frz o (.dK kvs))∧(zey kvs).length≤i⟩
section
variable {X:Cx}{tg:Expr}
def iDk (tl:TE):TI:=fun σ H R=>tl σ H fun x H1=>∃d kvs,x=.ref d∧H1 d=some (.dK kvs)∧L2.IntKeys kvs∧∀o,R (Itd d o kvs) (upd H1 d (.frz o (.dK kvs)))
def Ends.thaw (D:Ends)(H:Hp):Ends where
 nx:=fun σ H'=>∃d o kvs,H d=some (.dK kvs)∧H' d=some (.frz o (.dK kvs))∧D.nx σ (upd H' d (.dK kvs))
 rt:=fun v H'=>∃d o kvs,H d=some (.dK kvs)∧H' d=some (.frz o (.dK kvs))∧D.rt v (upd H' d (.dK kvs))
def znk (t:TS):TS:=fun D σ H=>t (D.thaw H) σ H
end
end L2
namespace L2
open PySem PySem.Spec PyProof.Rows PySem.W
section
variable {P:Program}{w:World}{A:Around}{E:Value→Shared→Prop}{s:Shared}{R:Result→Shared→Prop}{I l S:Addr}{items:Array Value}
end
section
variable {P:Program}{w:World}{A:Around}{E:Value→Shared→Prop}{s:Shared}{I l:Addr}{items:Array Value}
end
section
variable {X:Cx}{e:Expr}{te:TE}{p1 p2 q1 q2:Pos}
end
end L2
namespace L2
open PySem PySem.Spec PyProof.Rows PySem.W
def Itv (K:PySem.W.Frag)(p:Addr)(xs:List V):It:=
 ⟨fun n H=>SqL K H p xs∧n < xs.length,fun n H v H'=>H'=H∧xs.reverse[n]? =some v,fun n H=>SqL K H p xs∧xs.length≤n⟩
theorem ziY {P:Program}{w:World}{K:PySem.W.Frag}{tg:Expr}{xs:List V}(p it:Addr):Turn P w K tg (Itv K p xs) [it] it (fun i h=>i≤xs.length∧h.IsRevIter it p ((xs.length:Int) - 1 - (i:Nat))) where
 mem:=by simp
 obj:=fun i h st b hb=>by
  have e:b=it:=by simpa using hb
  subst e
  obtain ⟨_,o,e,c,d⟩:=st
  exact ⟨o,e,fun v z=>by rw [d] at z;cases z⟩
 keep:=fun i h h' st k=>⟨st.1,st.2.at fun o e=>k it (by simp) o e⟩
 item:=by
  intro X hP hw hK hc i pins s σ H E I hf st hg
  subst hP hw hK
  obtain ⟨hq,hi⟩:=hg
  obtain ⟨_,st⟩:=st
  obtain ⟨its,rv,p',hz⟩:=I.list hq
  have hn:xs.length - 1 - i < xs.length:=by omega
  have hx:xs[xs.length - 1 - i]? =some xs[xs.length - 1 - i]:=List.getElem?_eq_getElem hn
  obtain ⟨u,hu,ru⟩:=rv.get hx
  obtain ⟨f0,f1,f2,f3,f4,f5⟩:=hf it (by simp)
  have en:(xs.length:Int) - 1 - (i:Nat)=((xs.length - 1 - i:Nat):Int):=by omega
  rw [en] at st
  refine wpAny_pyNext_rev_item st p'.isList (x:=u) (by simpa using hu) fun h' st' sb=>?_
  have I1:Inv X pins σ H {s with heap:=h'}:=I.turned (t':=s.toks) (fun b o hb e=>(sb.2 b hb).trans e) f0 f1 f3 f4 f5
  obtain ⟨o,e,c,d⟩:=id st'
  have en2:((xs.length - 1 - i:Nat):Int) - 1=(xs.length:Int) - 1 - ((i+1:Nat):Int):=by omega
  rw [en2] at st'
  exact ⟨u,rfl,zeV (s:={s with heap:=h'}) e c d (by decide) ⟨_,H,I1,ru,⟨rfl,by rw [List.getElem?_reverse hi];exact hx⟩,⟨hi,st'⟩,fun b hb=>(hf b hb).1⟩⟩
 done:=by
  intro X hP hw hK hc i pins s σ H E I hf st hg
  subst hP hw hK
  obtain ⟨hq,hx⟩:=hg
  obtain ⟨hi,st⟩:=st
  obtain ⟨f0,f1,f2,f3,f4,f5⟩:=hf it (by simp)
  have en:(xs.length:Int) - 1 - (i:Nat)= -1:=by omega
  rw [en] at st
  exact wpAny_pyNext_rev_end (I.ok.hd hc) st fun h' eb=>⟨rfl,I.turned (t':=s.toks) (fun b o hb e=>eb b o hb e) f0 f1 f3 f4 f5⟩
 self:=fun _ _ _ _ _ st h=>wpAny_pyIter_revIter st.2 h
section
variable {X:Cx}
def iRev (K:PySem.W.Frag)(te:TE):TI:=fun σ H R=>te σ H fun x H1=>∃(p:Addr) (xs:List V),x=.ref p∧SqL K H1 p xs∧R (Itv K p xs) H1
theorem zjO {tg a:Expr}{te:TE}{p pos:Pos}(hg:Gl X "reversed") (hm:X.mg "reversed" =none) (he:PE X a te) (hs:starEach [a] X.env=[(false,eval a X.env)]:=by rfl):
  PI X tg (.Call (.Name "reversed" p) [a] [] pos) (iRev X.K te):=by
 intro pins s σ H R I h
 refine wpAny_Call_Name_kw (zc2 I hg hm (show bootBuiltins "reversed" =some (.type "reversed") from by rfl) ?_ (by decide) (by decide))
 refine PyProof.Rows.callWith_type1 ?_ hs rfl
 rw [hs]
 show wpAny _ _ (spliced ((false,eval a X.env)::[])) _ _ s
 refine Calls.spliced_cons (thn (he pins s σ H _ I h) fun u t1 ⟨x,H1,I1,r1,p,ys,ex,hq,q⟩=>Calls.spliced_nil ?_)
 subst ex
 cases (show u=Value.ref p from r1)
 obtain ⟨its,rv,pl,hz⟩:=I1.list hq
 have hlen:=rv.length
 refine call_reversed_list pl.isList ?_
 have hri:(t1.heap.push (revObj p ((its.toArray.size:Int) - 1))).IsRevIter t1.heap.objs.size p ((ys.length:Int) - 1 - ((0:Nat):Int)):=⟨_,Heap.get?_push_size _ rfl,rfl,by rw [List.size_toArray,←hlen];simp [revObj]⟩
 refine wpAny_pyIter_revIter (s:={t1 with heap:=t1.heap.push (revObj p ((its.toArray.size:Int) - 1))}) hri ?_
 refine ⟨t1.heap.objs.size,[t1.heap.objs.size],_,_,H1,rfl,I1.kept (t':=t1.toks) fun b o e=>Heap.get?_push_of_some _ e,ziY p _,⟨Nat.zero_le _,hri⟩,fun b hb=>?_,q⟩
 have e:b=t1.heap.objs.size:=by simpa using hb
 subst e
 exact I1.fpOk (Nat.le_refl _) (I1.hok.fresh (Nat.le_refl _))
theorem zfz {K:PySem.W.Frag}{p:Addr}{xs:List V}{g:TG}{tb:TS}{D:Ends}{σ:St}{H:Hp}(Pv:Nat→St→Hp→Prop)(h0:Pv 0 σ H)(hl:∀i σ H,Pv i σ H→SqL K H p xs)
  (hs:∀i x σ H,i < xs.length→xs.reverse[i]? =some x→Pv i σ H→g x σ H fun σ2 H2=>tb {D with nx:=Pv (i+1),ct:=Pv (i+1),bk:=D.nx} σ2 H2) (hd:∀σ H,Pv xs.length σ H→D.nx σ H):
  ∃W:Nat→Nat→St→Hp→Prop,(∃m,W 0 m σ H)∧∀i m σ H,W i m σ H→
   ((Itv K p xs).stop i H∧D.nx σ H)∨((Itv K p xs).go i H∧∃N:St→Hp→Prop,(∀σ' H',N σ' H'→∃m',m' < m∧W (i+1) m' σ' H')∧∀x H',(Itv K p xs).yld i H x H'→g x σ H' fun σ2 H2=>tb {D with nx:=N,ct:=N,bk:=D.nx} σ2 H2):=by
 refine ⟨fun i m σ H=>m=xs.length - i∧i≤xs.length∧Pv i σ H,⟨_,rfl,Nat.zero_le _,h0⟩,?_⟩
 rintro i m σ H ⟨rfl,hi,p⟩
 have q:=hl i σ H p
 by_cases hlt:i < xs.length
 ·refine .inr ⟨⟨q,hlt⟩,Pv (i+1),fun σ' H' p'=>⟨_,by omega,rfl,hlt,p'⟩,fun x H' y=>?_⟩
  obtain ⟨rfl,e1⟩:=y
  exact hs i x σ _ hlt e1 p
 ·have e:i=xs.length:=by omega
  subst e
  exact .inl ⟨⟨q,Nat.le_refl _⟩,hd σ H p⟩
end
end L2
namespace Pv
open PySem L2
abbrev zdA:Stmt:=top 13
theorem zgN:zv ["value"] ["value"] (zg zdA):=⟨rfl,rfl,rfl,by decide+kernel,rfl,by decide+kernel,by decide+kernel⟩
abbrev zd7:Stmt:=top 28
theorem zhR:zv ["thing"] ["thing"] (zg zd7):=⟨rfl,rfl,rfl,by decide+kernel,rfl,by decide+kernel,by decide+kernel⟩
abbrev zeA:Stmt:=top 27
theorem zhS:zv ["thing"] ["thing"] (zg zeA):=⟨rfl,rfl,rfl,by decide+kernel,rfl,by decide+kernel,by decide+kernel⟩
abbrev zbG:Stmt:=top 26
theorem zcD:zv ["vault","root","count","node"] ["vault","root","count"] (zg zbG):=⟨rfl,rfl,rfl,by decide+kernel,rfl,by decide+kernel,by decide+kernel⟩
abbrev zbF:Stmt:=top 30
theorem zen:zv ["vault","root","count"] ["vault","root","count"] (zg zbF):=⟨rfl,rfl,rfl,by decide+kernel,rfl,by decide+kernel,by decide+kernel⟩
abbrev ssize:Stmt:=top 29
theorem zlE:zv ["vault","root"] ["vault","root"] (zg ssize):=⟨rfl,rfl,rfl,by decide+kernel,rfl,by decide+kernel,by decide+kernel⟩
abbrev zjB:Stmt:=top 31
theorem zlZ:zv ["key"] ["key"] (zg zjB):=⟨rfl,rfl,rfl,by decide+kernel,rfl,by decide+kernel,by decide+kernel⟩
abbrev zgr:Stmt:=top 32
theorem zfj:zv ["key","other","mine","its"] ["key","other"] (zg zgr):=⟨rfl,rfl,rfl,by decide+kernel,rfl,by decide+kernel,by decide+kernel⟩
open Tr
theorem Mt.imp {P:Program}{w:World}{K:PySem.W.Frag}{mg:Str→Option Value}{base:Heap}{CX:CXT}{C:Addr}{m:Str}{k:Nat}{ps:List Str}{sp sp':Sp}(F:Mt P w K mg base CX C m k ps sp)(h:∀vs H Q E,sp' vs H Q E→sp vs H Q E):Mt P w K mg base CX C m k ps sp':=by
 obtain ⟨f,fd,a,b⟩:=F.ex
 exact ⟨f,fd,a.imp h,b⟩
structure VS (H:Hp)(C a d:Addr)(cs:List (Int ×Th)):Prop where
 vo:∃kv,VOk H C a d kv∧DRep H cs kv
 gc:GoodC cs
theorem VS.same {H H':Hp}{C a d:Addr}{cs:List (Int ×Th)}(v:VS H C a d cs)(s:Same H H'):VS H' C a d cs:=by
 obtain ⟨kv,vo,dr⟩:=v.vo
 exact ⟨⟨kv,vo.keep s,dr.keep (Same.tups s)⟩,v.gc⟩
def Fr1 (d:Addr)(H H':Hp):Prop:=∀b o,b≠d→H b=some o→H' b=some o
theorem Fr1.refl (d:Addr)(H:Hp):Fr1 d H H:=fun _ _ _ e=>e
theorem Fr1.trans {d:Addr}{H H' H'':Hp}(f:Fr1 d H H')(g:Fr1 d H' H''):Fr1 d H H'':=fun b o n e=>g b o n (f b o n e)
theorem Same.fr1 {d:Addr}{H H':Hp}(s:Same H H'):Fr1 d H H':=fun b o _ e=>s b o e
theorem VS.ne {H:Hp}{C a d:Addr}{cs:List (Int ×Th)}{b:Addr}{o:HO}(v:VS H C a d cs)(e:H b=some o)(h:∀kv,o≠ .dK kv):b≠d:=by
 obtain ⟨kv,vo,_⟩:=v.vo
 intro z
 rw [z,vo.di] at e
 cases e
 exact h kv rfl
theorem VS.tups {H H':Hp}{C a d:Addr}{cs:List (Int ×Th)}(v:VS H C a d cs)(f:Fr1 d H H'):Tups H H':=fun b xs e=>f b _ (v.ne e (by intro kv z;cases z)) e
theorem VS.lst {H H':Hp}{C a d:Addr}{cs:List (Int ×Th)}{b:Addr}{xs:List V}(v:VS H C a d cs)(f:Fr1 d H H')(e:H b=some (.lst xs)):H' b=some (.lst xs):=f b _ (v.ne e (by intro kv z;cases z)) e
def Cl (CC:Addr)(E:XK):Prop:=∀(t1 t2:Th) (v1 v2:V) (H:Hp) (x:Addr),Rep H t1 v1→Rep H t2 v2→Good t1→Good t2→t1≠t2→zy t1=zy t2→H x=some (xdO x [("one",v1),("other",v2)])→E (.ref CC) (some x) H
def zed (C CC:Addr):Sp:=fun vs H Q E=>∃(a d:Addr) (cs:List (Int ×Th)) (t:Th) (v:V),vs=[.ref a,v]∧VS H C a d cs∧cs.length≤1000000∧Rep H t v∧Good t∧Cl CC E∧
 ∀H',Fr1 d H H'→Fits cs (zy t) t→VS H' C a d (addT cs (zy t) t)→Q (.int (zy t)) H'
def zml (C:Addr):Sp:=fun vs H Q _=>∃(a d:Addr) (cs:List (Int ×Th)) (n:Int) (t:Th),vs=[.ref a,.int n]∧VS H C a d cs∧zL cs n=some t∧∀v,Rep H t v→Q v H
theorem zkb {P:Program}{w:World}{K:PySem.W.Frag}{mg:Str→Option Value}{base:Heap}{C CC:Addr}(M:Mt P w K mg base (CX1 P w) C "lay" 14 ["self","thing"] (zk7 C CC)):Mt P w K mg base (CX1 P w) C "lay" 14 ["self","thing"] (zed C CC):=Mt.imp M fun vs H Q E h=>by
 obtain ⟨a,d,cs,t,v,rfl,vs,hl,rt,gt,cl,q⟩:=h
 obtain ⟨kv,vo,dr⟩:=vs.vo
 refine ⟨a,d,kv,t,v,rfl,vo,dr.laidOk vs.gc.gd,by rw [dr.len];exact hl,rt,gt,fun H' s alike=>?_,fun t1 v1 H' s e1 r1 g1 se ne H2 x s2 ex=>?_⟩
 ·have ft:Fits cs (zy t) t:=by
   cases z:zL cs (zy t) with
   | none=>exact .inl z
   | some u=>
    obtain ⟨y,ey,ry⟩:=dr.some z
    rw [alike u y ey ry] at z
    exact .inr z
  have ed':=s _ _ vo.di
  have tk:Tups H (upd H' d (.dK (putK kv (.inl (zy t)) v))):=(Same.tups s).trans (Tups.upd fun xs z=>by rw [ed'] at z;cases z)
  have fr:Fr1 d H (upd H' d (.dK (putK kv (.inl (zy t)) v))):=fun b o n e=>by rw [zq n];exact s b o e
  obtain ⟨⟨dx,fs,eo,fl⟩,ed⟩:=id vo
  exact q _ fr ft ⟨⟨_,⟨⟨dx,fs,fr _ _ (zbg eo ed (by intro z;cases z)) eo,fl⟩,zf⟩,(dr.keep tk).add (rt.keep tk) ft vs.gc.nd⟩,vs.gc.add gt rfl⟩
 ·exact cl t1 t v1 v H2 x (r1.keep (Same.tups s2)) (rt.keep ((Same.tups s).trans (Same.tups s2))) g1 gt ne se ex
structure NodeOk (k wo:Th)(l r c:Int):Prop where
 k0:k≠ .non
 w0:wo≠ .non
 l0:0≤l
 r0:0≤r
 c1:1≤c
 c2:c≤300
def zmT:Sp:=fun vs H Q _=>(∃i:Int,vs=[.int i]∧Q (.bl true) H)∨(vs=[.non]∧Q (.bl false) H)
def zm2:Sp:=fun vs H Q _=>∃i:Int,vs=[.int i]∧0≤i∧Q (.bl true) H
def zmu:Sp:=fun vs H Q _=>∃(v:V) (k wo:Th) (l r c:Int),vs=[v]∧Rep H (z9 k wo l r c) v∧NodeOk k wo l r c∧Q (.bl true) H
structure TOk (cs:List (Int ×Th))(T:Tr):Prop where
 iv:T.InV cs
 ky:∀p∈T.ps,KeyT p.1∧KeyT p.2
 ct:T.cnt≤300
theorem TOk.mono {cs cs':List (Int ×Th)}{T:Tr}(t:TOk cs T)(s:Sub cs cs'):TOk cs' T:=⟨InV.mono s t.iv,t.ky,t.ct⟩
theorem TOk.nil {cs:List (Int ×Th)}:TOk cs Tr.nil:=⟨trivial,fun p h=>(nomatch h),Nat.zero_le _⟩
theorem TOk.l {cs:List (Int ×Th)}{l r:Tr}{k w:Th}(t:TOk cs (node l k w r)):TOk cs l:=⟨t.iv.2.1,fun p h=>t.ky p (List.mem_append_left _ h),by have:=t.ct;rw [zcx] at this;omega⟩
theorem TOk.r {cs:List (Int ×Th)}{l r:Tr}{k w:Th}(t:TOk cs (node l k w r)):TOk cs r:=⟨t.iv.2.2,fun p h=>t.ky p (List.mem_append_right _ (List.mem_cons_of_mem _ h)),by have:=t.ct;rw [zcx] at this;omega⟩
theorem TOk.kw {cs:List (Int ×Th)}{l r:Tr}{k w:Th}(t:TOk cs (node l k w r)):KeyT k∧KeyT w:=t.ky (k,w) (List.mem_append_right _ List.mem_cons_self)
theorem TOk.kid {cs:List (Int ×Th)}{T:Tr}{x:Th}(t:TOk cs T):TOk cs (T.kid x):=by
 cases T with
 | nil=>exact .nil
 | node l k w r=>
  show TOk cs (if zh k x=true then r else l)
  split
  ·exact t.r
  ·exact t.l
theorem TOk.down {cs:List (Int ×Th)}{x:Th}:∀{n:Nat} {T:Tr},TOk cs T→TOk cs (down x n T)
 | 0,_,t=>t
 | n+1,_,t=>TOk.down (n:=n) t.kid
theorem KeyT.good {t:Th}(k:KeyT t):Good t:=⟨k.wf,Nat.le_trans k.dp (by decide),Nat.le_trans k.nd (by decide)⟩
theorem zaH {k wo:Th}{l r c:Int}(hk:KeyT k)(hw:KeyT wo)(l0:0≤l)(l1:l≤10 ^ 30)(r0:0≤r)(r1:r≤10 ^ 30)(c0:1≤c)(c1:c≤300):NodeOk k wo l r c∧Good (z9 k wo l r c):=by
 refine ⟨⟨hk.ne,hw.ne,l0,r0,c0,c1⟩,⟨⟨by show (5:Nat)≤40;decide,hk.wf,hw.wf,⟨by omega,l1⟩,⟨by omega,r1⟩,⟨by omega,by omega⟩,trivial⟩,?_,?_⟩⟩
 ·have h1:=hk.dp
  have h2:=hw.dp
  show max (dep k) (max (dep wo) (max 0 (max 0 (max 0 0))))+1≤8
  omega
 ·have h1:=hk.nd
  have h2:=hw.nd
  show 1+(nodes k+(nodes wo+(1+(1+(1+0)))))≤80
  omega
def znx (C:Addr):Sp:=fun vs H Q _=>∃(a d:Addr) (cs:List (Int ×Th)) (l r:Tr) (k w:Th) (m:Int),vs=[.ref a,.int (node l k w r).root,.int m]∧VS H C a d cs∧TOk cs (node l k w r)∧((node l k w r).cnt:Int) < m∧∀v,Rep H (node l k w r).thing v→Q v H
def zmU (C:Addr):Sp:=fun vs H Q _=>∃(a d:Addr) (cs:List (Int ×Th)) (T:Tr),vs=[.ref a,.int T.root]∧VS H C a d cs∧TOk cs T∧Q (.int (T.cnt:Int)) H
def zmq (C:Addr):Sp:=fun vs H Q _=>∃(a d:Addr) (cs:List (Int ×Th)) (T:Tr) (m:Int),vs=[.ref a,.int T.root,.int m]∧VS H C a d cs∧TOk cs T∧(T.cnt:Int) < m∧Q (.int (T.cnt:Int)) H
def ziA:Sp:=fun vs H Q _=>∃(t:Th) (v:V),vs=[v]∧Rep H t v∧Good t∧∀H',Same H H'→Q (.int (zcz t)) H'
def zfk:Sp:=fun vs H Q _=>∃(t u:Th) (v w:V),vs=[v,w]∧Rep H t v∧Rep H u w∧Good t∧Good u∧∀H',Same H H'→Q (.bl (zaV t u)) H'
theorem zhz {t:Th}(g:Good t):Wf (.tup [.str ("rank" :Str),t])∧dep (.tup [.str ("rank" :Str),t]) < 10∧nodes (.tup [.str ("rank" :Str),t])≤100:=by
 have h1:=g.dp
 have h2:=g.nd
 refine ⟨⟨by show (2:Nat)≤40;decide,⟨by decide+kernel,by decide+kernel⟩,g.wf,trivial⟩,?_,?_⟩
 ·show max 0 (max (dep t) 0)+1 < 10
  omega
 ·show 1+(1+(nodes t+0))≤100
  omega
theorem zK {H:Hp}{k wo:Th}{l r c:Int}{v:V}(rep:Rep H (z9 k wo l r c) v):∃a vk vw,v=.ref a∧H a=some (.tup [vk,vw,.int l,.int r,.int c])∧Rep H k vk∧Rep H wo vw:=by
 obtain ⟨a,xs,e,ea,r1⟩:=rep.list
 cases r1 with
 | cons h1 r2=>
 cases r2 with
 | cons h2 r3=>
 cases r3 with
 | cons h3 r4=>
 cases r4 with
 | cons h4 r5=>
 cases r5 with
 | cons h5 r6=>
 cases r6 with
 | nil=>
 cases h3
 cases h4
 cases h5
 exact ⟨a,_,_,e,ea,h1,h2⟩
theorem ze9 {H:Hp}{t:Th}{v:V}(r:Rep H t v)(h:t≠ .non):decide (v=V.non)=false:=by
 cases r with
 | non=>exact absurd rfl h
 | int i=>rfl
 | str x=>rfl
 | tup e l h=>rfl
section
variable {P:Program}{w:World}{K:PySem.W.Frag}{mg:Str→Option Value}{base:Heap}{C CC:Addr}{x:Str}{t1 t2 t3 t4 t5 t6 t7:Tok}
theorem zkN (D:Dfn K mg "rank" zjB ["key"]) (F_seal:Fn P w K mg base "seal" 13 ["thing"] zdy):Fn P w K mg base "rank" 14 ["key"] ziA:=by
 refine D.ok (k:=13) zlZ (fun vs H Q E h=>?_) (fun f cdv A outer s H vs Q E hr h=>?_)
 ·obtain ⟨t,v,rfl,_⟩:=h;rfl
 obtain ⟨t,v,rfl,rt,gt,q⟩:=h
 obtain ⟨g1,g2,g3⟩:=zhz gt
 refine ⟨_,(ze (zl (zC F_seal hr (by omega) (by rfl) (za (zJ (za zah (za (pv 0) zc))) zc)))),?_⟩
 refine ⟨_,rfl,szl (show 2≤1000 by decide),fun p hp=>?_⟩
 exact ⟨_,_,rfl,(RepL.cons (.str _) (.cons rt .nil)).new hp,g1,g2,g3,fun H' s'=>q H' ((zk (Same.refl H) hp).trans s')⟩
theorem ziR (D:Dfn K mg "above" zgr ["key","other"]) (F_rank:Fn P w K mg base "rank" 14 ["key"] ziA) (F_ahead:Fn P w K mg base "ahead" 20 ["one","other"] (zbo 9)):Fn P w K mg base "above" 21 ["key","other"] zfk:=by
 refine D.ok (k:=20) zfj (fun vs H Q E h=>?_) (fun f cdv A outer s H vs Q E hr h=>?_)
 ·obtain ⟨t,u,v,w,rfl,_⟩:=h;rfl
 obtain ⟨t,u,v,w,rfl,rt,ru,gt,gu,q⟩:=h
 refine ⟨_,(zd (zj (i:=2) zfj.nd rfl (Or.inl rfl) (zC F_rank hr (by omega) (by rfl) (za (pv 0) zc)))
 (zd (zj (i:=3) zfj.nd rfl (Or.inl rfl) (zC F_rank hr (by omega) (by rfl) (za (pv 1) zc)))
 (zd (zE (zw zbu (pv 2) (pv 3) (zt _))
 (ze (zl (zQ ziD (pv 2) (pv 3) (zt _))))
 zu)
 (ze (zl (zC F_ahead hr (by omega) (by rfl) (za (pv 0) (za (pv 1) zc)))))))),?_⟩
 refine ⟨_,rfl,t,v,rfl,rt,gt,fun H1 s1=>?_⟩
 refine ⟨_,rfl,u,w,rfl,ru.keep (Same.tups s1),gu,fun H2 s2=>?_⟩
 have s12:=s1.trans s2
 have gd:=gt.dp
 refine ⟨_,rfl,_,rfl,rfl,_,rfl,?_⟩
 rw [zR]
 refine ifB (fun c=>?_) (fun c=>?_)
 ·have ne:zcz t≠zcz u:=fun z=>by rw [decide_eq_true z] at c;cases c
  refine ⟨_,rfl,_,rfl,_,_,rfl,rfl,?_⟩
  have:=q H2 s12
  unfold zaV at this
  rw [if_neg ne] at this
  exact this
 ·have eq:zcz t=zcz u:=by
   by_cases z:zcz t=zcz u
   ·exact z
   ·rw [decide_eq_false z] at c;cases c
  refine ⟨_,rfl,_,rfl,t,u,v,w,rfl,rt.keep (Same.tups s12),ru.keep (Same.tups s12),by omega,by omega,fun H3 s3=>?_⟩
  have:=q H3 (s12.trans s3)
  unfold zaV at this
  rw [if_pos eq] at this
  exact this
end
end Pv
namespace Pv
open PySem L2
open Tr
abbrev zeB:Stmt:=top 34
theorem zid:zv ["node","key"] ["node","key"] (zg zeB):=⟨rfl,rfl,rfl,by decide+kernel,rfl,by decide+kernel,by decide+kernel⟩
abbrev zcX:Stmt:=top 46
theorem zfO:zv ["node","side","root","count"] ["node","side","root","count"] (zg zcX):=⟨rfl,rfl,rfl,by decide+kernel,rfl,by decide+kernel,by decide+kernel⟩
abbrev zfv:Stmt:=top 35
theorem zbO:zv ["vault","root","key","way","count","node"] ["vault","root","key"] (zg zfv):=⟨rfl,rfl,rfl,by decide+kernel,rfl,by decide+kernel,by decide+kernel⟩
abbrev zel:Stmt:=top 36
theorem zh7:zv ["way","key"] ["way","key"] (zg zel):=⟨rfl,rfl,rfl,by decide+kernel,rfl,by decide+kernel,by decide+kernel⟩
def zfF (x:Th)(n:Nat)(T:Tr):List Th:=(List.range n).map fun i=>(down x i T).thing
def zgk (k x:Th):Int:=if zh k x=true then 3 else 2
def Tr.isN:Tr→Bool
 | nil=>false
 | node _ _ _ _=>true
def zjp:Sp:=fun vs H Q _=>∃(v vx:V) (k w x:Th) (l r c:Int),vs=[v,vx]∧Rep H (z9 k w l r c) v∧Rep H x vx∧KeyT k∧∀H',Same H H'→Q (.int (zgk k x)) H'
def znb:Sp:=fun vs H Q _=>∃(v:V) (k w x:Th) (l r c n m:Int),vs=[v,.int (zgk k x),.int n,.int m]∧Rep H (z9 k w l r c) v∧∀p H',Same H H'→Rep H' (if zh k x=true then z9 k w l n m else z9 k w n r m) (.ref p)→Q (.ref p) H'
def znh (C:Addr):Sp:=fun vs H Q _=>∃(a d:Addr) (cs:List (Int ×Th)) (T:Tr) (x:Th) (vx:V),vs=[.ref a,.int T.root,vx]∧VS H C a d cs∧TOk cs T∧Rep H x vx∧KeyT x∧
 ∀pw ws H',Same H H'→H pw=none→H' pw=some (.lst ws)→RepL H' (zfF x (wl x T) T) ws→Q (.ref pw) H'
def zmY (K:PySem.W.Frag):Sp:=fun vs H Q _=>∃(pw:Addr) (ws:List V) (T:Tr) (x:Th) (vx:V),vs=[.ref pw,vx]∧SqL K H pw ws∧RepL H (zfF x (wl x T) T) ws∧(∀p∈T.ps,KeyT p.1)∧Rep H x vx∧Q (.bl (own x T).isN) H
section
variable {P:Program}{w:World}{K:PySem.W.Frag}{mg:Str→Option Value}{base:Heap}{C CC:Addr}{x:Str}{t1 t2 t3 t4 t5 t6 t7:Tok}
theorem zkj (D:Dfn K mg "side_of" zeB ["node","key"]) (F_ahead:Fn P w K mg base "ahead" 20 ["one","other"] (zbo 9)) (g_KEY:mg "KEY" =some (.int 0 t1)) (g_LEFT:mg "LEFT" =some (.int 2 t3)) (g_RIGHT:mg "RIGHT" =some (.int 3 t4)):Fn P w K mg base "side_of" 21 ["node","key"] zjp:=by
 refine D.ok (k:=20) zid (fun vs H Q E h=>?_) (fun f cdv A outer s H vs Q E hr h=>?_)
 ·obtain ⟨v,vx,k,w,x,l,r,c,rfl,_⟩:=h;rfl
 obtain ⟨v,vx,k,w,x,l,r,c,rfl,rn,rx,kk,q⟩:=h
 obtain ⟨p,vk,vw,rfl,ea,rk,rw'⟩:=zK rn
 have et:SqT K H p [vk,vw,.int l,.int r,.int c]:=SqT.of ea
 have kd:=kk.dp
 refine ⟨_,(ze (zl (zcE (zS (zC F_ahead hr (by omega) (by rfl) (za (zm zA (pv 0) (zx (v:=.int 0) (by rfl) g_KEY ⟨_,rfl⟩) (fun _ _=>rfl)) (za (pv 1) zc)))) (zx (v:=.int 3) (by rfl) g_RIGHT ⟨_,rfl⟩) (zx (v:=.int 2) (by rfl) g_LEFT ⟨_,rfl⟩)))),?_⟩
 refine ⟨_,rfl,p,_,_,_,rfl,rfl,et,rfl,_,rfl,k,x,_,_,rfl,rk,rx,by omega,by omega,fun H1 s1=>⟨_,rfl,?_⟩⟩
 have q1:=q H1 s1
 unfold zgk at q1
 cases z:zh k x with
 | true=>rw [if_pos z] at q1;exact ifT rfl q1
 | false=>rw [if_neg (by rw [z];exact Bool.false_ne_true)] at q1;exact ifF rfl q1
end
end Pv
namespace L2
open PySem PySem.Spec PyProof.Rows
def Ite (K:PySem.W.Frag)(p:Addr)(xs:List V):It:=
 ⟨fun n H=>SqL K H p xs∧n < xs.length,fun n H v H'=>∃(T:Addr) (x:V),H T=none∧xs[n]? =some x∧v=.ref T∧H'=upd H T (.tup [.int n,x]),fun n H=>SqL K H p xs∧xs.length≤n⟩
section
variable {X:Cx}
def znr (K:PySem.W.Frag)(ta:TA):TI:=fun σ H R=>ta σ H fun vs H1=>∃(p:Addr) (xs:List V),vs=[.ref p]∧SqL K H1 p xs∧R (Ite K p xs) H1
end
end L2
namespace Pv
open PySem L2
open Tr
abbrev zjk:Stmt:=top 47
theorem zi0:zv ["vault","way","key","root","more","node"] ["vault","way","key","root","more"] (zg zjk):=⟨rfl,rfl,rfl,by decide+kernel,rfl,by decide+kernel,by decide+kernel⟩
abbrev zkm:Stmt:=top 48
def zm5 (K:PySem.W.Frag)(C CC:Addr):Sp:=fun vs H Q E=>∃(a d pw:Addr) (cs:List (Int ×Th)) (T S:Tr) (x:Th) (vx:V) (n:Nat) (ws:List V) (more:Int),vs=[.ref a,.ref pw,vx,.int S.root,.int more]∧VS H C a d cs∧H pw=some (.lst ws)∧RepL H (zfF x n T) ws∧(∀m,m < n→down x m T≠nil)∧Rep H x vx∧
 TOk cs T∧S.InV cs∧T.cnt+S.cnt≤300+(down x n T).cnt∧more=(S.cnt:Int) - ((down x n T).cnt:Int)∧cs.length+n≤1000000∧Cl CC E∧
 ∀cs' H',Fr1 d H H'→VS H' C a d cs'→Sub cs cs'→(plug x n T S).InV cs'→cs'.length≤cs.length+n→Q (.int (plug x n T S).root) H'
def zmc (K:PySem.W.Frag)(C CC:Addr):Sp:=fun vs H Q E=>∃(a d pw:Addr) (cs:List (Int ×Th)) (T:Tr) (x:Th) (vx:V) (n:Nat) (ws:List V),vs=[.ref a,.ref pw,vx,.int (down x n T).root,.int ((down x n T).cnt:Int)]∧VS H C a d cs∧H pw=some (.lst ws)∧RepL H (zfF x n T) ws∧(∀m,m < n→down x m T≠nil)∧Rep H x vx∧
 TOk cs T∧cs.length+n≤1000000∧Cl CC E∧
 ∀cs' p H',Fr1 d H H'→VS H' C a d cs'→Sub cs cs'→(spl x n T).1.InV cs'→(spl x n T).2.InV cs'→cs'.length≤cs.length+n→H' p=some (.tup [.int (spl x n T).1.root,.int (spl x n T).2.root])→Q (.ref p) H'
section
variable {P:Program}{w:World}{K:PySem.W.Frag}{mg:Str→Option Value}{base:Heap}{C CC:Addr}{x:Str}{t1 t2 t3 t4 t5 t6 t7:Tok}
end
end Pv
namespace Pv
open PySem L2
open Tr
abbrev zhF:Stmt:=top 50
abbrev sput:Stmt:=top 51
theorem zk8:zv ["vault","root","key","worth","way","own","new","place","trees","count"] ["vault","root","key","worth"] (zg sput):=⟨rfl,rfl,rfl,by decide+kernel,rfl,by decide+kernel,by decide+kernel⟩
def zmS:Sp:=fun vs H Q _=>∃(pw:Addr) (ws:List V) (T:Tr) (x:Th) (vx:V),vs=[.ref pw,vx]∧H pw=some (.lst ws)∧RepL H (zfF x (wl x T) T) ws∧own x T=nil∧T.cnt≤300∧(∀p∈T.ps,KeyT p.1)∧KeyT x∧Rep H x vx∧∀H',Same H H'→Q (.int (plc x T:Int)) H'
def znA (C CC:Addr):Sp:=fun vs H Q E=>∃(a d:Addr) (cs:List (Int ×Th)) (T:Tr) (x w:Th) (vx vw:V),vs=[.ref a,.int T.root,vx,vw]∧VS H C a d cs∧TOk cs T∧T.cnt≤299∧Rep H x vx∧KeyT x∧Rep H w vw∧KeyT w∧cs.length≤900000∧Cl CC E∧
 ∀cs' H',Fr1 d H H'→VS H' C a d cs'→Sub cs cs'→(putT x w T).InV cs'→cs'.length≤cs.length+300→Q (.int (putT x w T).root) H'
theorem RepL.take {H:Hp}:∀{ts:List Th} {vs:List V} (n:Nat),RepL H ts vs→RepL H (ts.take n) (vs.take n)
 | _,_,0,_=>by rw [List.take_zero,List.take_zero];exact .nil
 | _,_,n+1,.nil=>by rw [List.take_nil,List.take_nil];exact .nil
 | _,_,n+1,.cons h r=>.cons h (RepL.take n r)
theorem RepL.drop {H:Hp}:∀{ts:List Th} {vs:List V} (n:Nat),RepL H ts vs→RepL H (ts.drop n) (vs.drop n)
 | _,_,0,r=>r
 | _,_,n+1,.nil=>by rw [List.drop_nil,List.drop_nil];exact .nil
 | _,_,n+1,.cons h r=>RepL.drop n r
theorem zj0 {xs:List V}{n:Nat}(h:n≤xs.length):cutV xs none (some (n:Int))=xs.take n:=by
 unfold cutV
 rw [HT.sIx_none,HT.sIx_nat,Nat.min_eq_left h]
 rfl
theorem zfh {xs:List V}{n:Nat}(h:n≤xs.length):cutV xs (some (n:Int)) none=xs.drop n:=by
 unfold cutV
 rw [HT.sIx_none,HT.sIx_nat,Nat.min_eq_left h]
 exact List.take_of_length_le (by rw [List.length_drop];exact Nat.le_refl _)
theorem zkt {xs:List V}{n:Nat}(h:xs.length=n+1):cutV xs none (some (-1))=xs.take n:=by
 unfold cutV
 rw [HT.sIx_none]
 show (xs.drop 0).take (HT.sIx xs.length xs.length (some (-1)) - 0)=_
 rw [List.drop_zero,Nat.sub_zero,h]
 congr 1
 unfold HT.sIx
 simp
 omega
section
variable {P:Program}{w:World}{K:PySem.W.Frag}{mg:Str→Option Value}{base:Heap}{C CC:Addr}{x:Str}{t1 t2 t3 t4 t5 t6 t7:Tok}
end
end Pv
namespace Pv
open PySem L2
open Tr
def inR (a b:Th)(p:Th ×Th):Bool:=(decide (a=.non) || !zh p.1 a) && (decide (b=.non) || zh p.1 b)
def rng (a b:Th)(ps:List (Th ×Th)):List (Th ×Th):=ps.filter (inR a b)
theorem zgz (a b:Th)(ps qs:List (Th ×Th)):rng a b (ps++qs)=rng a b ps++rng a b qs:=List.filter_append ..
theorem zjZ {a b:Th}{ps:List (Th ×Th)}(h:∀p∈ps,inR a b p=false):rng a b ps=[]:=List.filter_eq_nil_iff.mpr fun p hp=>by rw [h p hp];exact Bool.false_ne_true
def za2 (a b:Th):Bool:= !decide (a=.non) && (!decide (b=.non) && !zh a b)
def zap (a k:Th):Bool:=decide (a=.non) || zh a k
def zaB (b k:Th):Bool:=decide (b=.non) || zh k b
theorem zhK {a b k:Th}{ps:List (Th ×Th)}(h:zap a k=false)(hp:∀p∈ps,zh p.1 k=true):rng a b ps=[]:=by
 unfold zap at h
 rw [Bool.or_eq_false_iff] at h
 refine zjZ fun p hp'=>?_
 unfold inR
 rw [h.1]
 rcases zeR a (hp p hp') with y | y
 ·rw [y];rfl
 ·rw [h.2] at y;cases y
def pend (a b:Th):List Tr→List (Th ×Th)
 | []=>[]
 | nil::st=>pend a b st
 | node _ k w r::st=>rng a b ((k,w)::r.ps)++pend a b st
def zdL:List Tr→Nat
 | []=>0
 | nil::st=>zdL st
 | node _ _ _ r::st=>1+2 * r.cnt+zdL st
def Tr.ca (x:Th):Tr→Nat
 | nil=>0
 | node l k _ r=>if k=x then l.cnt else if zh k x=true then l.cnt+1+r.ca x else l.ca x
end Pv
namespace Pv
open PySem L2
open Tr
abbrev zdF:Stmt:=top 38
theorem zgM:zv ["low","high"] ["low","high"] (zg zdF):=⟨rfl,rfl,rfl,by decide+kernel,rfl,by decide+kernel,by decide+kernel⟩
abbrev zcY:Stmt:=top 39
theorem zfR:zv ["node","low"] ["node","low"] (zg zcY):=⟨rfl,rfl,rfl,by decide+kernel,rfl,by decide+kernel,by decide+kernel⟩
abbrev zcA:Stmt:=top 40
theorem zfe:zv ["node","high"] ["node","high"] (zg zcA):=⟨rfl,rfl,rfl,by decide+kernel,rfl,by decide+kernel,by decide+kernel⟩
abbrev zcI:Stmt:=top 41
theorem zbZ:zv ["vault","node","left","right"] ["vault","node"] (zg zcI):=⟨rfl,rfl,rfl,by decide+kernel,rfl,by decide+kernel,by decide+kernel⟩
abbrev zcc:Stmt:=top 43
theorem zaR:zv ["vault","root","key","many","node"] ["vault","root","key"] (zg zcc):=⟨rfl,rfl,rfl,by decide+kernel,rfl,by decide+kernel,by decide+kernel⟩
abbrev zd6:Stmt:=top 44
theorem zeY:zv ["vault","root","low","high","many"] ["vault","root","low","high"] (zg zd6):=⟨rfl,rfl,rfl,by decide+kernel,rfl,by decide+kernel,by decide+kernel⟩
abbrev snth:Stmt:=top 45
theorem zdS:zv ["vault","root","number","count","node","left"] ["vault","root","number"] (zg snth):=⟨rfl,rfl,rfl,by decide+kernel,rfl,by decide+kernel,by decide+kernel⟩
abbrev zZ (p:Th ×Th):Th:=.tup [p.1,p.2]
def nthP (ps:List (Th ×Th))(n:Int):Th:=if n < 0 then .non else match ps[n.toNat]? with | none=>.non | some p=>zZ p
theorem zca {H:Hp}{t:Th}{v:V}(r:Rep H t v):decide (v=V.non)=decide (t=.non):=by
 cases r with
 | non=>rfl
 | int i=>exact (decide_eq_false (by intro z;cases z)).trans (decide_eq_false (by intro z;cases z)).symm
 | str x=>exact (decide_eq_false (by intro z;cases z)).trans (decide_eq_false (by intro z;cases z)).symm
 | tup e l h=>exact (decide_eq_false (by intro z;cases z)).trans (decide_eq_false (by intro z;cases z)).symm
def zfs:Sp:=fun vs H Q _=>∃(a b:Th) (va vb:V),vs=[va,vb]∧Rep H a va∧Rep H b vb∧dep a≤3∧∀H',Same H H'→Q (.bl (za2 a b)) H'
def zho:Sp:=fun vs H Q _=>∃(v va:V) (k w a:Th) (l r c:Int),vs=[v,va]∧Rep H (z9 k w l r c) v∧Rep H a va∧dep a≤3∧∀H',Same H H'→Q (.bl (zap a k)) H'
def zg8:Sp:=fun vs H Q _=>∃(v va:V) (k w a:Th) (l r c:Int),vs=[v,va]∧Rep H (z9 k w l r c) v∧Rep H a va∧dep k≤3∧∀H',Same H H'→Q (.bl (zaB a k)) H'
def znm (C:Addr):Sp:=fun vs H Q _=>∃(a d:Addr) (cs:List (Int ×Th)) (l r:Tr) (k w:Th) (v:V),vs=[.ref a,v]∧VS H C a d cs∧TOk cs (node l k w r)∧Rep H (node l k w r).thing v∧Q .non H
def zmn (C:Addr):Sp:=fun vs H Q _=>∃(a d:Addr) (cs:List (Int ×Th)) (T:Tr) (x:Th) (vx:V),vs=[.ref a,.int T.root,vx]∧VS H C a d cs∧TOk cs T∧Srt T.ps∧Rep H x vx∧KeyT x∧∀H',Same H H'→Q (.int ((lo T.ps x).length:Int)) H'
def Bd (t:Th):Prop:=t=.non∨KeyT t
theorem Bd.dp {t:Th}(h:Bd t):dep t≤3:=by
 rcases h with rfl | h
 ·exact Nat.zero_le _
 ·exact h.dp
def zl7 (C:Addr):Sp:=fun vs H Q _=>∃(a d:Addr) (cs:List (Int ×Th)) (T:Tr) (x y:Th) (vx vy:V),vs=[.ref a,.int T.root,vx,vy]∧VS H C a d cs∧TOk cs T∧Srt T.ps∧Rep H x vx∧Bd x∧Rep H y vy∧Bd y∧∀H',Same H H'→Q (.int ((rng x y T.ps).length:Int)) H'
def znu (C:Addr):Sp:=fun vs H Q _=>∃(a d:Addr) (cs:List (Int ×Th)) (T:Tr) (n:Int),vs=[.ref a,.int T.root,.int n]∧VS H C a d cs∧TOk cs T∧∀v H',Same H H'→Rep H' (nthP T.ps n) v→Q v H'
section
variable {P:Program}{w:World}{K:PySem.W.Frag}{mg:Str→Option Value}{base:Heap}{C CC:Addr}{x:Str}{t1 t2 t3 t4 t5 t6 t7:Tok}
theorem ziL (D:Dfn K mg "is_empty" zdF ["low","high"]) (F_ahead:Fn P w K mg base "ahead" 20 ["one","other"] (zbo 9)):Fn P w K mg base "is_empty" 21 ["low","high"] zfs:=by
 refine D.ok (k:=20) zgM (fun vs H Q E h=>?_) (fun f cdv A outer s H vs Q E hr h=>?_)
 ·obtain ⟨a,b,va,vb,rfl,_⟩:=h;rfl
 obtain ⟨a,b,va,vb,rfl,ra,rb,hd,q⟩:=h
 refine ⟨_,(ze (zl (zbl (zQ zdX (pv 0) zP (zt _)) (zbl (zQ zdX (pv 1) zP (zt _)) (zba (zgq (zC F_ahead hr (by omega) (by rfl) (za (pv 0) (za (pv 1) zc))))))))),?_⟩
 have e1:=zca ra
 have e2:=zca rb
 refine ⟨_,rfl,rfl,_,rfl,?_⟩
 rw [e1]
 unfold za2 at q
 cases z:decide (a=.non) with
 | true=>
  rw [z] at q
  exact ifF rfl (q H (Same.refl H))
 | false=>
  rw [z] at q
  refine ifT rfl ⟨_,rfl,rfl,_,rfl,?_⟩
  rw [e2]
  cases y:decide (b=.non) with
  | true=>
   rw [y] at q
   exact ifF rfl (q H (Same.refl H))
  | false=>
   rw [y] at q
   refine ifT rfl ⟨_,rfl,_,rfl,a,b,_,_,rfl,ra,rb,by omega,by omega,fun H1 s1=>⟨_,rfl,q H1 s1⟩⟩
theorem zin (D:Dfn K mg "goes_left" zcY ["node","low"]) (F_ahead:Fn P w K mg base "ahead" 20 ["one","other"] (zbo 9)) (g_KEY:mg "KEY" =some (.int 0 t1)):Fn P w K mg base "goes_left" 21 ["node","low"] zho:=by
 refine D.ok (k:=20) zfR (fun vs H Q E h=>?_) (fun f cdv A outer s H vs Q E hr h=>?_)
 ·obtain ⟨v,va,k,w,a,l,r,c,rfl,_⟩:=h;rfl
 obtain ⟨v,va,k,w,a,l,r,c,rfl,rn,ra,hd,q⟩:=h
 obtain ⟨p,vk,vw,rfl,ea,rk,rw'⟩:=zK rn
 refine ⟨_,(ze (zl (zk2 (zQ za3 (pv 1) zP (zt _)) (zba (zC F_ahead hr (by omega) (by rfl) (za (pv 1) (za (zm zA (pv 0) (zx (v:=.int 0) (by rfl) g_KEY ⟨_,rfl⟩) (fun _ _=>rfl)) zc))))))),?_⟩
 refine ⟨_,rfl,rfl,_,rfl,?_⟩
 rw [zca ra]
 unfold zap at q
 cases z:decide (a=.non) with
 | true=>
  rw [z] at q
  exact ifT rfl (q H (Same.refl H))
 | false=>
  rw [z] at q
  exact ifF rfl ⟨_,rfl,_,rfl,p,_,_,_,rfl,rfl,SqT.of ea,rfl,a,k,_,_,rfl,ra,rk,by omega,by omega,fun H1 s1=>q H1 s1⟩
theorem zi6 (D:Dfn K mg "goes_right" zcA ["node","high"]) (F_ahead:Fn P w K mg base "ahead" 20 ["one","other"] (zbo 9)) (g_KEY:mg "KEY" =some (.int 0 t1)):Fn P w K mg base "goes_right" 21 ["node","high"] zg8:=by
 refine D.ok (k:=20) zfe (fun vs H Q E h=>?_) (fun f cdv A outer s H vs Q E hr h=>?_)
 ·obtain ⟨v,va,k,w,a,l,r,c,rfl,_⟩:=h;rfl
 obtain ⟨v,va,k,w,a,l,r,c,rfl,rn,ra,hd,q⟩:=h
 obtain ⟨p,vk,vw,rfl,ea,rk,rw'⟩:=zK rn
 refine ⟨_,(ze (zl (zk2 (zQ za3 (pv 1) zP (zt _)) (zba (zC F_ahead hr (by omega) (by rfl) (za (zm zA (pv 0) (zx (v:=.int 0) (by rfl) g_KEY ⟨_,rfl⟩) (fun _ _=>rfl)) (za (pv 1) zc))))))),?_⟩
 refine ⟨_,rfl,rfl,_,rfl,?_⟩
 rw [zca ra]
 unfold zaB at q
 cases z:decide (a=.non) with
 | true=>
  rw [z] at q
  exact ifT rfl (q H (Same.refl H))
 | false=>
  rw [z] at q
  exact ifF rfl ⟨_,rfl,p,_,_,_,rfl,rfl,SqT.of ea,rfl,_,rfl,k,a,_,_,rfl,rk,ra,by omega,by omega,fun H1 s1=>q H1 s1⟩
end
end Pv
namespace Pv
open PySem L2
open Tr
abbrev zee:Stmt:=top 42
theorem zaL:zv ["vault","root","low","high","pairs","begun","count","node"] ["vault","root","low","high"] (zg zee):=⟨rfl,rfl,rfl,by decide+kernel,rfl,by decide+kernel,by decide+kernel⟩
theorem RepL.unsnoc {H:Hp}{t:Th}:∀{ts:List Th} {vs:List V},RepL H (ts++ [t]) vs→∃us v,vs=us++ [v]∧RepL H ts us∧Rep H t v
 | [],_,.cons h .nil=>⟨[],_,rfl,.nil,h⟩
 | u::ts,_,.cons h r=>by
  obtain ⟨us,v,e,r',h'⟩:=RepL.unsnoc r
  exact ⟨_::us,v,by rw [e];rfl,.cons h r',h'⟩
theorem zbj {t u:TS}{D:L2.Ends}{σ:L2.St}{H:Hp}(Pq:L2.St→Hp→Prop)(a:∀N:L2.St→Hp→Prop,(∀σ H,Pq σ H→N σ H)→t {D with nx:=N} σ H)(rest:∀σ H,Pq σ H→u D σ H):tSeq t u D σ H:=a (u D) rest
structure SI (H0 H:Hp)(pp pb:Addr)(cs:List (Int ×Th))(x y:Th)(all:List (Th ×Th))(S:Tr)(st:List Tr)(out:List (Th ×Th))(m:Nat):Prop where
 sm:Same H0 H
 xs:∃xs,H pp=some (.lst xs)∧RepL H (out.map zZ) xs
 bs:∃bs,H pb=some (.lst bs)∧RepL H (st.reverse.map thing) bs
 ok:TOk cs S
 so:Srt S.ps
 on:∀D∈st,TOk cs D∧Srt D.ps∧D≠nil
 eq:out++rng x y S.ps++pend x y st=all
 me:2 * S.cnt+zdL st≤m
 m6:m≤600
theorem SI.same {H0 H H':Hp}{pp pb:Addr}{cs:List (Int ×Th)}{x y:Th}{all:List (Th ×Th)}{S:Tr}{st:List Tr}{out:List (Th ×Th)}{m:Nat}(i:SI H0 H pp pb cs x y all S st out m)(s:Same H H'):SI H0 H' pp pb cs x y all S st out m:=by
 obtain ⟨xs,e1,r1⟩:=i.xs
 obtain ⟨bs,e2,r2⟩:=i.bs
 exact ⟨fun b o e=>s b o (i.sm b o e),⟨xs,s _ _ e1,r1.keep (Same.tups s)⟩,⟨bs,s _ _ e2,r2.keep (Same.tups s)⟩,i.ok,i.so,i.on,i.eq,i.me,i.m6⟩
theorem SI.push {H0 H:Hp}{pp pb:Addr}{cs:List (Int ×Th)}{x y:Th}{all:List (Th ×Th)}{l r:Tr}{k w:Th}{st:List Tr}{out:List (Th ×Th)}{m:Nat}{bs:List V}{v:V}(i:SI H0 H pp pb cs x y all (node l k w r) st out m)(eb:H pb=some (.lst bs))(rb:RepL H (st.reverse.map thing) bs)(rn:Rep H (node l k w r).thing v)(np:pp≠pb)(hb:H0 pb=none):
  SI H0 (upd H pb (.lst (bs++ [v]))) pp pb cs x y all (if zap x k=true then l else nil) (node l k w r::st) out (m - 1):=by
 obtain ⟨xs,e1,r1⟩:=i.xs
 have tk:Tups H (upd H pb (.lst (bs++ [v]))):=Tups.upd fun xs z=>by rw [eb] at z;cases z
 obtain ⟨h1,h2,h3,h4⟩:=ziw i.so
 have me:=i.me
 have m6:=i.m6
 have hc:=zcx l k w r
 have eq:out++rng x y (l.ps++(k,w)::r.ps)++pend x y st=all:=i.eq
 rw [zgz] at eq
 have hst:zdL (node l k w r::st)=1+2 * r.cnt+zdL st:=rfl
 refine ⟨fun b o e=>by rw [zq (zr e hb)];exact i.sm b o e,⟨xs,by rw [zq np];exact e1,r1.keep tk⟩,⟨_,zf,?_⟩,?_,?_,?_,?_,?_,by omega⟩
 ·rw [List.reverse_cons,List.map_append]
  exact (rb.keep tk).snoc (rn.keep tk)
 ·split
  ·exact i.ok.l
  ·exact TOk.nil
 ·split
  ·exact h1
  ·exact List.Pairwise.nil
 ·intro D hD
  rcases List.mem_cons.mp hD with rfl | hD
  ·exact ⟨i.ok,i.so,fun z=>by cases z⟩
  ·exact i.on D hD
 ·show out++rng x y (if zap x k=true then l else nil).ps++(rng x y ((k,w)::r.ps)++pend x y st)=all
  rw [←eq]
  cases z:zap x k with
  | true=>
   rw [if_pos rfl];simp only [List.append_assoc]
  | false=>
   rw [if_neg Bool.false_ne_true,zhK z h3]
   show out++ []++_=_
   simp only [List.append_assoc,List.nil_append]
 ·rw [hst]
  split
  ·omega
  ·show 2 * 0+_≤_
   omega
theorem SI.pop {H0 H:Hp}{pp pb:Addr}{cs:List (Int ×Th)}{x y:Th}{all:List (Th ×Th)}{l r:Tr}{k w:Th}{st:List Tr}{out:List (Th ×Th)}{m:Nat}{us:List V}{v:V}(i:SI H0 H pp pb cs x y all nil (node l k w r::st) out m)(eb:H pb=some (.lst (us++ [v])))(rb:RepL H (st.reverse.map thing) us)(np:pp≠pb)(hb:H0 pb=none):
  SI H0 (upd H pb (.lst us)) pp pb cs x y (out++pend x y st) nil st out (m - 1)∧all=out++(rng x y ((k,w)::r.ps)++pend x y st)∧1+2 * r.cnt+zdL st≤m:=by
 obtain ⟨xs,e1,r1⟩:=i.xs
 have tk:Tups H (upd H pb (.lst us)):=Tups.upd fun xs z=>by rw [eb] at z;cases z
 have me:=i.me
 have m6:=i.m6
 have hst:zdL (node l k w r::st)=1+2 * r.cnt+zdL st:=rfl
 rw [hst] at me
 have eq:out++ []++(rng x y ((k,w)::r.ps)++pend x y st)=all:=i.eq
 rw [List.append_nil] at eq
 refine ⟨⟨fun b o e=>by rw [zq (zr e hb)];exact i.sm b o e,⟨xs,by rw [zq np];exact e1,r1.keep tk⟩,⟨_,zf,rb.keep tk⟩,TOk.nil,List.Pairwise.nil,fun D hD=>i.on D (List.mem_cons_of_mem _ hD),?_,by show 2 * 0+_≤_;omega,by omega⟩,eq.symm,by omega⟩
 show out++ []++_=_
 rw [List.append_nil]
def zl8 (C:Addr):Sp:=fun vs H Q _=>∃(a d:Addr) (cs:List (Int ×Th)) (T:Tr) (x y:Th) (vx vy:V),vs=[.ref a,.int T.root,vx,vy]∧VS H C a d cs∧TOk cs T∧Srt T.ps∧Rep H x vx∧dep x≤3∧Rep H y vy∧
 ∀p xs H',Same H H'→H p=none→H' p=some (.lst xs)→RepL H' ((rng x y T.ps).map zZ) xs→Q (.ref p) H'
section
variable {P:Program}{w:World}{K:PySem.W.Frag}{mg:Str→Option Value}{base:Heap}{C CC:Addr}{x:Str}{t1 t2 t3 t4 t5 t6 t7:Tok}
end
end Pv
namespace Pv
open PySem L2
abbrev zc1:Stmt:=top 66
theorem zfQ:zv ["thing"] ["thing"] (zg zc1):=⟨rfl,rfl,rfl,by decide+kernel,rfl,by decide+kernel,by decide+kernel⟩
abbrev zcK:Stmt:=top 67
theorem zdo:zv ["one","other","k"] ["one","other"] (zg zcK):=⟨rfl,rfl,rfl,by decide+kernel,rfl,by decide+kernel,by decide+kernel⟩
def zda (n:Nat):Sp:=fun vs H Q _=>∃(t u:Th) (v w:V),vs=[v,w]∧Rep H t v∧Rep H u w∧dep t < n∧dep u < n∧Wf t∧Wf u∧∀H':Hp,Same H H'→Q (.bl (zh t u)) H'
section
variable {P:Program}{w:World}{K:PySem.W.Frag}{mg:Str→Option Value}{base:Heap}{C CC:Addr}
theorem zj2 (D:Dfn K mg "_law_sort" zc1 ["thing"]) (m_isinstance:mg "isinstance" =none) (m_int:mg "int" =none) (m_str:mg "str" =none):Fn P w K mg base "_law_sort" 1 ["thing"] zeb:=by
 refine D.ok (k:=0) zfQ (fun vs H Q E h=>?_) (fun f cdv A outer s H vs Q E hr h=>?_)
 ·obtain ⟨t,v,rfl,_⟩:=h;rfl
 obtain ⟨t,v,rfl,rt,q⟩:=h
 refine ⟨_,(zd (zE (zw za3 (pv 0) zP (zt _))
 (ze (zl zb))
 zu)
 (zd (zE (zS (zF (zae) (by rfl) m_isinstance (by rfl) (za (pv 0) (za (zaD (v:=.ty "int") (by rfl) m_int (by rfl) rfl) zc))))
 (ze (zl zb))
 zu)
 (zd (zE (zS (zF (zae) (by rfl) m_isinstance (by rfl) (za (pv 0) (za (zaD (v:=.ty "str") (by rfl) m_str (by rfl) rfl) zc))))
 (ze (zl zb))
 zu)
 (ze (zl zb))))),?_⟩
 refine ⟨_,rfl,rfl,_,rfl,?_⟩
 cases rt with
 | non=>exact ifT (by decide) q
 | int i=>
  refine ifF (by rfl) ?_
  refine ⟨_,rfl,_,_,_,_,rfl,.int i,rfl,_,rfl,?_⟩
  exact ifT rfl q
 | str x=>
  refine ifF (by rfl) ?_
  refine ⟨_,rfl,_,_,_,_,rfl,.str x,rfl,_,rfl,?_⟩
  refine ifF rfl ?_
  refine ⟨_,rfl,_,_,_,_,rfl,.str x,rfl,_,rfl,?_⟩
  exact ifT rfl q
 | tup e l h=>
  refine ifF (by rfl) ?_
  refine ⟨_,rfl,_,_,_,_,rfl,.tup e,rfl,_,rfl,?_⟩
  refine ifF rfl ?_
  refine ⟨_,rfl,_,_,_,_,rfl,.tup e,rfl,_,rfl,?_⟩
  exact ifF rfl q
theorem zkh (a b:Nat):(if (b:Int) < (a:Int) then (b:Int) else (a:Int))=((min a b:Nat):Int):=by
 split <;> omega
theorem zja:Clss [V.ty "int",V.ty "str"]:=fun v hv=>by
 rcases List.mem_cons.mp hv with e | hv
 ·exact .inl ⟨_,e⟩
 ·exact .inl ⟨_,List.mem_singleton.mp hv⟩
theorem zeZ (D:Dfn K mg "_law_ahead" zcK ["one","other"]) (F_law_sort:Fn P w K mg base "_law_sort" 1 ["thing"] zeb) (m_isinstance:mg "isinstance" =none) (m_int:mg "int" =none) (m_str:mg "str" =none) (m_range:mg "range" =none) (m_len:mg "len" =none) (m_min:mg "min" =none):
  ∀n:Nat,Fn P w K mg base "_law_ahead" (n+2) ["one","other"] (zda n)
 | 0=>D.never fun vs H Q E h=>by
   obtain ⟨t,u,v,w,_,_,_,h1,_⟩:=h
   omega
 | n+1=>by
  have F_law_ahead:=zeZ D F_law_sort m_isinstance m_int m_str m_range m_len m_min n
  refine D.ok (k:=n+2) zdo (fun vs H Q E h=>?_) (fun f cdv A outer s H vs Q E hr h=>?_)
  ·obtain ⟨t,u,v,w,rfl,_⟩:=h;rfl
  obtain ⟨t,u,v,w,rfl,r1,r2,hd1,hd2,wf1,wf2,q⟩:=h
  refine ⟨_,(zd (zE (zw zbu (zC F_law_sort hr (by omega) (by rfl) (za (pv 0) zc)) (zC F_law_sort hr (by omega) (by rfl) (za (pv 1) zc)) (zt _))
 (ze (zl (zQ zcJ (zC F_law_sort hr (by omega) (by rfl) (za (pv 0) zc)) (zC F_law_sort hr (by omega) (by rfl) (za (pv 1) zc)) (zt _))))
 zu)
 (zd (zE (zw za3 (pv 0) zP (zt _))
 (ze (zl zaM))
 zu)
 (zd (zE (zS (zF (zfa) (by rfl) m_isinstance (by rfl) (za (pv 0) (za (zJ (za (zaD (v:=.ty "int") (by rfl) m_int (by rfl) rfl) (za (zaD (v:=.ty "str") (by rfl) m_str (by rfl) rfl) zc))) zc))))
 (ze (zl (zQ (OpR.or zcJ zeK) (pv 0) (pv 1) (zt _))))
 zu)
 (zd (zaA PassesOwn.never rfl (za6 rfl m_range (za (zF (zhT rfl) (by rfl) m_min (by rfl) (za (zF (zI) (by rfl) m_len (by rfl) (za (pv 0) zc)) (za (zF (zI) (by rfl) m_len (by rfl) (za (pv 1) zc)) zc))) zc)) (z7 (i:=2) zdo.nd rfl (Or.inl rfl))
 (zd (zE (zS (zC F_law_ahead hr (by omega) (by rfl) (za (zm zA (pv 0) (pv 2) (fun _ _=>rfl)) (za (zm zA (pv 1) (pv 2) (fun _ _=>rfl)) zc))))
 (ze (zl zaM))
 zu)
 (ze (zE (zS (zC F_law_ahead hr (by omega) (by rfl) (za (zm zA (pv 1) (pv 2) (fun _ _=>rfl)) (za (zm zA (pv 0) (pv 2) (fun _ _=>rfl)) zc))))
 (ze (zl zaM))
 zu))))
 (ze (zl (zQ zcJ (zF (zI) (by rfl) m_len (by rfl) (za (pv 0) zc)) (zF (zI) (by rfl) m_len (by rfl) (za (pv 1) zc)) (zt _)))))))),?_⟩
  refine ⟨_,rfl,t,v,rfl,r1,_,rfl,u,w,rfl,r2,rfl,_,rfl,?_⟩
  rw [zR]
  refine ifB (fun c=>?_) (fun c=>?_)
  ·have ne:zan t≠zan u:=fun z=>by rw [decide_eq_true z] at c;cases c
   refine ⟨_,rfl,t,v,rfl,r1,_,rfl,u,w,rfl,r2,_,_,rfl,rfl,?_⟩
   show Q (.bl (decide (zan t < zan u))) H
   rw [←zdU ne]
   exact q H (Same.refl _)
  ·have eq:zan t=zan u:=by
    by_cases z:zan t=zan u
    ·exact z
    ·rw [decide_eq_false z] at c;cases c
   refine ⟨_,rfl,rfl,_,rfl,?_⟩
   cases r1 with
   | non=>
    refine ifT (by decide) ?_
    cases r2 with
    | non=>exact q H (Same.refl _)
    | int i=>exact absurd eq (by show (0:Int)≠1;decide)
    | str x=>exact absurd eq (by show (0:Int)≠2;decide)
    | tup e l h=>exact absurd eq (by show (0:Int)≠3;decide)
   | int i=>
    refine ifF (by rfl) ?_
    refine ⟨_,rfl,szl (show 2≤1000 by decide),fun p hp=>?_⟩
    refine ⟨_,p,_,_,true,rfl,zf,zja,.int i,rfl,_,rfl,ifT rfl ?_⟩
    cases r2 with
    | non=>exact absurd eq (by show (1:Int)≠0;decide)
    | int j=>exact ⟨_,rfl,_,rfl,.inl ⟨_,_,rfl,rfl,q _ (zk (Same.refl _) hp)⟩⟩
    | str x=>exact absurd eq (by show (1:Int)≠2;decide)
    | tup e l h=>exact absurd eq (by show (1:Int)≠3;decide)
   | str x=>
    refine ifF (by rfl) ?_
    refine ⟨_,rfl,szl (show 2≤1000 by decide),fun p hp=>?_⟩
    refine ⟨_,p,_,_,true,rfl,zf,zja,.str x,rfl,_,rfl,ifT rfl ?_⟩
    cases r2 with
    | non=>exact absurd eq (by show (2:Int)≠0;decide)
    | int j=>exact absurd eq (by show (2:Int)≠1;decide)
    | str y=>exact ⟨_,rfl,_,rfl,.inr ⟨_,_,rfl,rfl,q _ (zk (Same.refl _) hp)⟩⟩
    | tup e l h=>exact absurd eq (by show (2:Int)≠3;decide)
   | @tup a xs ts e1 l1 h1=>
    refine ifF (by rfl) ?_
    refine ⟨_,rfl,szl (show 2≤1000 by decide),fun p hp=>?_⟩
    have sm0:Same H (upd H p (.tup [.ty "int",.ty "str"])):=zk (Same.refl _) hp
    refine ⟨_,p,_,_,false,rfl,zf,zja,.tup (sm0 _ _ e1),rfl,_,rfl,ifF rfl ?_⟩
    cases r2 with
    | non=>exact absurd eq (by show (3:Int)≠0;decide)
    | int j=>exact absurd eq (by show (3:Int)≠1;decide)
    | str y=>exact absurd eq (by show (3:Int)≠2;decide)
    | @tup b ys us e2 l2 h2=>
     have hd1':depL ts+1 < n+1:=hd1
     have hd2':depL us+1 < n+1:=hd2
     have w40:ts.length≤40:=wf1.1
     refine ⟨_,rfl,a,_,rfl,.inr (SqT.of (sm0 _ _ e1)),_,rfl,b,_,rfl,.inr (SqT.of (sm0 _ _ e2)),?_⟩
     refine ⟨_,_,rfl,?_⟩
     rw [zkh]
     refine ⟨_,rfl,by omega,by omega,?_⟩
     rw [Int.toNat_natCast]
     refine za8 (n:=min xs.length ys.length) (fun i σ H'=>∃kk,σ=[some (.ref a),some (.ref b),kk]∧Same H H'∧zaO ts us=zaO (ts.drop i) (us.drop i)) ⟨_,rfl,sm0,rfl⟩ ?_ ?_
     ·rintro i σ H1 hi ⟨kk,rfl,sm,ea⟩
      rw [Int.zero_add]
      have hi1:i < xs.length:=by omega
      have hi2:i < ys.length:=by omega
      have hx:xs[i]? =some xs[i]:=List.getElem?_eq_getElem hi1
      have hy:ys[i]? =some ys[i]:=List.getElem?_eq_getElem hi2
      have ht:ts[i]? =some ts[i]:=List.getElem?_eq_getElem (by omega)
      have hu:us[i]? =some us[i]:=List.getElem?_eq_getElem (by omega)
      have ra:∀{H2:Hp},Same H H2→Rep H2 ts[i] xs[i]:=fun s2=>(h1 i _ _ hx ht).keep (Same.tups s2)
      have rb:∀{H2:Hp},Same H H2→Rep H2 us[i] ys[i]:=fun s2=>(h2 i _ _ hy hu).keep (Same.tups s2)
      have da:=zbw ht
      have db:=zbw hu
      rw [zdT (by omega) (by omega)] at ea
      refine ⟨_,rfl,_,rfl,a,_,_,_,rfl,rfl,SqT.of (sm _ _ e1),zaI hx,_,rfl,_,rfl,b,_,_,_,rfl,rfl,SqT.of (sm _ _ e2),zaI hy,ts[i],us[i],_,_,rfl,ra sm,rb sm,by omega,by omega,wf1.2.get ht,wf2.2.get hu,fun H2 s2=>⟨_,rfl,?_⟩⟩
      have sm2:=sm.trans s2
      refine ifB (fun cc=>?_) (fun cc=>?_)
      ·have ne:¬eqT ts[i] us[i]=true:=fun z=>by
        rw [(zaX _ _).mp z,zab] at cc;cases cc
       rw [if_neg ne,cc] at ea
       have:=q H2 sm2
       rw [show zh (.tup ts) (.tup us)=true from ea] at this
       exact this
      refine ⟨_,rfl,_,rfl,b,_,_,_,rfl,rfl,SqT.of (sm2 _ _ e2),zaI hy,_,rfl,_,rfl,a,_,_,_,rfl,rfl,SqT.of (sm2 _ _ e1),zaI hx,us[i],ts[i],_,_,rfl,rb sm2,ra sm2,by omega,by omega,wf2.2.get hu,wf1.2.get ht,fun H3 s3=>⟨_,rfl,?_⟩⟩
      have sm3:=sm2.trans s3
      refine ifB (fun c2=>?_) (fun c2=>?_)
      ·have ne:¬eqT ts[i] us[i]=true:=fun z=>by
        rw [(zaX _ _).mp z,zab] at c2;cases c2
       rw [if_neg ne,cc] at ea
       have:=q H3 sm3
       rw [show zh (.tup ts) (.tup us)=false from ea] at this
       exact this
      ·rw [if_pos (by rw [zdB cc c2];exact zao _)] at ea
       exact ⟨_,rfl,sm3,ea⟩
     ·rintro σ H1 ⟨kk,rfl,sm,ea⟩
      refine ⟨_,rfl,a,_,rfl,.inr (SqT.of (sm _ _ e1)),_,rfl,b,_,rfl,.inr (SqT.of (sm _ _ e2)),_,_,rfl,rfl,?_⟩
      rw [l1,l2,zd8] at ea
      have ed:decide ((xs.length:Int) < (ys.length:Int))=zaO ts us:=by
       rw [ea,l1,l2]
       rw [Bool.eq_iff_iff]
       simp
      show Q (.bl (decide ((xs.length:Int) < (ys.length:Int)))) H1
      rw [ed]
      exact q H1 sm
end
end Pv
namespace Pv
open PySem L2
abbrev zdx:Stmt:=top 64
theorem zbX:zv ["cell","way","xs","some"] ["cell","way"] (zg zdx):=⟨rfl,rfl,rfl,by decide+kernel,rfl,by decide+kernel,by decide+kernel⟩
abbrev zbB:Stmt:=top 65
theorem zbn:zv ["cell","way","xs"] ["cell","way"] (zg zbB):=⟨rfl,rfl,rfl,by decide+kernel,rfl,by decide+kernel,by decide+kernel⟩
def zeM:Sp:=fun vs H Q _=>∃(c m:Int),vs=[.int c,.int m]∧∀(t:Th) (v:V) (H':Hp),Same H H'→Rep H' t v→KeyT t→Q v H'
theorem zjH {xs:List Int}{a b c:Int}(h:Below xs [a,b,c]):∃x y z,xs=[x,y,z]∧(0≤x∧x < a)∧(0≤y∧y < b)∧0≤z∧z < c:=by
 obtain ⟨l,h⟩:=h
 match xs,l,h with
 | [x,y,z],_,h=>exact ⟨x,y,z,rfl,h 0 x a rfl rfl,h 1 y b rfl rfl,h 2 z c rfl rfl⟩
theorem zli {xs:List Int}{a b c d:Int}(h:Below xs [a,b,c,d]):∃x y z u,xs=[x,y,z,u]∧(0≤x∧x < a)∧(0≤y∧y < b)∧(0≤z∧z < c)∧0≤u∧u < d:=by
 obtain ⟨l,h⟩:=h
 match xs,l,h with
 | [x,y,z,u],_,h=>exact ⟨x,y,z,u,rfl,h 0 x a rfl rfl,h 1 y b rfl rfl,h 2 z c rfl rfl,h 3 u d rfl rfl⟩
theorem zbe {i:Int}(h0: -(10 ^ 30)≤i)(h1:i≤10 ^ 30):KeyT (.int i):=⟨⟨h0,h1⟩,by show (0:Nat)≤3;decide,by show (1:Nat)≤10;decide,fun z=>by cases z⟩
theorem zfm {x:Str}(h:zfX x):KeyT (.str x):=⟨h,by show (0:Nat)≤3;decide,by show (1:Nat)≤10;decide,fun z=>by cases z⟩
section
variable {P:Program}{w:World}{K:PySem.W.Frag}{mg:Str→Option Value}{base:Heap}
theorem zlL (D:Dfn K mg "_law_key" zdx ["cell","way"]) (F_law_parts:Fn P w K mg base "_law_parts" 2 ["cell","way","least"] ze4) (F_law_text:Fn P w K mg base "_law_text" 1 ["number","many"] ze7):Fn P w K mg base "_law_key" 3 ["cell","way"] zeM:=by
 refine D.ok (k:=2) zbX (fun vs H Q E h=>?_) (fun f cdv A outer s H vs Q E hr h=>?_)
 ·obtain ⟨c,m,rfl,_⟩:=h;rfl
 obtain ⟨c,m,rfl,q⟩:=h
 refine ⟨_,(zd (zj (i:=2) zbX.nd rfl (Or.inl rfl) (zC F_law_parts hr (by omega) (by rfl) (za (pv 0) (za (pv 1) (za (zM (za zb (za zb (za zb (za (zo zO (zo zaE zb (zo zaN zb zb)) zb) zc))))) zc)))))
 (zd (zj (i:=3) zbX.nd rfl (Or.inl rfl) (zM (za (zo za0 (zm zB (pv 2) zb (fun _ _=>rfl)) zb) (za (zo za0 (zm zB (pv 2) zb (fun _ _=>rfl)) zb) (za (zo za0 (zm zB (pv 2) zb (fun _ _=>rfl)) zb) (za (zo za0 (zm zB (pv 2) zb (fun _ _=>rfl)) (zo zaN zb zb)) (za (zC F_law_text hr (by omega) (by rfl) (za (zm zB (pv 2) zb (fun _ _=>rfl)) (za (zo zO (zm zB (pv 2) zb (fun _ _=>rfl)) zb) zc))) zc)))))))
 (zd (zj (i:=3) zbX.nd rfl (Or.inl rfl) (zo zbk (pv 3) (zM (za (zJ (za (zo z8 (zm zB (pv 2) zb (fun _ _=>rfl)) zb) (za (zC F_law_text hr (by omega) (by rfl) (za (zm zB (pv 2) zb (fun _ _=>rfl)) (za (zo z8 (zm zB (pv 2) zb (fun _ _=>rfl)) zb) zc))) zc))) (za (zJ (za zP (za (zJ (za (zo z8 (zm zB (pv 2) zb (fun _ _=>rfl)) zb) (za (zJ (za (zo z8 (zm zB (pv 2) zb (fun _ _=>rfl)) zb) zc)) zc))) zc))) zc)))))
 (ze (zl (zm zB (pv 3) (zm zB (pv 2) zb (fun _ _=>rfl)) (fun _ _=>rfl))))))),?_⟩
 have e30:(10:Int) ^ (30:Int).toNat=1000000000000000000000000000000:=by decide+kernel
 refine ⟨_,rfl,_,rfl,_,_,rfl,rfl,⟨by decide,by decide,by decide⟩,_,_,rfl,rfl,.inl ⟨by decide,by decide⟩,_,_,rfl,rfl,szl (show 4≤1000 by decide),fun p hp=>?_⟩
 refine ⟨c,m,p,[7,24,12,2 * (10:Int) ^ (30:Int).toNat+1],rfl,zf,by decide,by decide+kernel,fun r xs H1 s1 er hb=>?_⟩
 have s01:Same H H1:=(zk (Same.refl H) hp).trans s1
 obtain ⟨x0,x1,x2,x3,rfl,b0,b1,b2,b3⟩:=zli hb
 have es:SqL K H1 r [.int x0,.int x1,.int x2,.int x3]:=SqL.of er
 refine ⟨_,rfl,r,_,_,_,rfl,rfl,es,rfl,_,_,rfl,rfl,_,rfl,r,_,_,_,rfl,rfl,es,rfl,_,_,rfl,rfl,_,rfl,r,_,_,_,rfl,rfl,es,rfl,_,_,rfl,rfl,?_⟩
 refine ⟨_,rfl,r,_,_,_,rfl,rfl,es,rfl,_,_,rfl,rfl,⟨by decide,by decide,by decide⟩,_,_,rfl,rfl,?_⟩
 refine ⟨_,rfl,r,_,_,_,rfl,rfl,es,rfl,_,rfl,r,_,_,_,rfl,rfl,es,rfl,_,_,rfl,rfl,x3,_,rfl,by omega,by omega,fun tx1 htx1=>?_⟩
 refine ⟨szl (show 5≤1000 by decide),fun pl hpl=>?_⟩
 have sa:=zk (o:=.lst [.int (x1 - 12),.int (x1 - 12),.int (x1 - 12),.int (x3 - (10:Int) ^ (30:Int).toNat),.str tx1]) (Same.refl H1) hpl
 have el:upd H1 pl (.lst [.int (x1 - 12),.int (x1 - 12),.int (x1 - 12),.int (x3 - (10:Int) ^ (30:Int).toNat),.str tx1]) pl=some (.lst [.int (x1 - 12),.int (x1 - 12),.int (x1 - 12),.int (x3 - (10:Int) ^ (30:Int).toNat),.str tx1]):=zf
 generalize upd H1 pl (.lst [.int (x1 - 12),.int (x1 - 12),.int (x1 - 12),.int (x3 - (10:Int) ^ (30:Int).toNat),.str tx1])=H2 at sa el
 have es2:SqL K H2 r [.int x0,.int x1,.int x2,.int x3]:=SqL.of (sa _ _ er)
 refine ⟨_,rfl,_,rfl,r,_,_,_,rfl,rfl,es2,rfl,_,_,rfl,rfl,(show (0:Int) < 5 by decide),?_⟩
 refine ⟨_,rfl,r,_,_,_,rfl,rfl,es2,rfl,_,rfl,r,_,_,_,rfl,rfl,es2,rfl,_,_,rfl,rfl,(show (0:Int) < 3 by decide),x3,_,rfl,by omega,by omega,fun tx2 htx2=>?_⟩
 refine ⟨szl (show 2≤1000 by decide),fun p1 h1=>?_⟩
 have sb:=zk (o:=.tup [.int (x1 % 5),.str tx2]) sa h1
 have rp1:=(RepL.cons (.int (x1 % 5)) (.cons (.str tx2) .nil)).new h1
 have el3:=zk (o:=.tup [.int (x1 % 5),.str tx2]) (Same.refl H2) h1 _ _ el
 generalize upd H2 p1 (.tup [.int (x1 % 5),.str tx2])=H3 at sb rp1 el3
 have es3:SqL K H3 r [.int x0,.int x1,.int x2,.int x3]:=SqL.of (sb _ _ er)
 refine ⟨_,rfl,r,_,_,_,rfl,rfl,es3,rfl,_,_,rfl,rfl,(show (0:Int) < 3 by decide),_,rfl,r,_,_,_,rfl,rfl,es3,rfl,_,_,rfl,rfl,(show (0:Int) < 4 by decide),szl (show 1≤1000 by decide),fun p2 h2=>?_⟩
 have s34:=zk (o:=.tup [.int (x2 % 4)]) (Same.refl H3) h2
 have rp2:=(RepL.cons (.int (x2 % 4)) .nil).new h2
 generalize upd H3 p2 (.tup [.int (x2 % 4)])=H4 at s34 rp2
 refine ⟨szl (show 2≤1000 by decide),fun p3 h3=>?_⟩
 have s45:=zk (o:=.tup [.int (x1 % 3),.ref p2]) (Same.refl H4) h3
 have rp3:=(RepL.cons (.int (x1 % 3)) (.cons rp2 .nil)).new h3
 generalize upd H4 p3 (.tup [.int (x1 % 3),.ref p2])=H5 at s45 rp3
 refine ⟨szl (show 2≤1000 by decide),fun p4 h4=>?_⟩
 have s56:=zk (o:=.tup [.non,.ref p3]) (Same.refl H5) h4
 have rp4:=(RepL.cons .non (.cons rp3 .nil)).new h4
 generalize upd H5 p4 (.tup [.non,.ref p3])=H6 at s56 rp4
 have s36:=(s34.trans s45).trans s56
 refine ⟨szl (show 2≤1000 by decide),fun l hl=>?_⟩
 have s67:=zk (o:=.lst [.ref p1,.ref p4]) (Same.refl H6) hl
 have e7:upd H6 l (.lst [.ref p1,.ref p4]) l=some (.lst [.ref p1,.ref p4]):=zf
 generalize upd H6 l (.lst [.ref p1,.ref p4])=H7 at s67 e7
 have s37:=s36.trans s67
 refine ⟨pl,l,_,_,rfl,rfl,s37 _ _ el3,e7,szl (show 7≤1000 by decide),fun rr hrr=>?_⟩
 have s78:=zk (o:=.lst ([.int (x1 - 12),.int (x1 - 12),.int (x1 - 12),.int (x3 - (10:Int) ^ (30:Int).toNat),.str tx1]++ [.ref p1,.ref p4])) (Same.refl H7) hrr
 have e8:upd H7 rr (.lst ([.int (x1 - 12),.int (x1 - 12),.int (x1 - 12),.int (x3 - (10:Int) ^ (30:Int).toNat),.str tx1]++ [.ref p1,.ref p4])) rr=some (.lst [.int (x1 - 12),.int (x1 - 12),.int (x1 - 12),.int (x3 - (10:Int) ^ (30:Int).toNat),.str tx1,.ref p1,.ref p4]):=zf
 generalize upd H7 rr (.lst ([.int (x1 - 12),.int (x1 - 12),.int (x1 - 12),.int (x3 - (10:Int) ^ (30:Int).toNat),.str tx1]++ [.ref p1,.ref p4]))=H8 at s78 e8
 have s38:=s37.trans s78
 have rl:RepL H8 [.int (x1 - 12),.int (x1 - 12),.int (x1 - 12),.int (x3 - (10:Int) ^ (30:Int).toNat),.str tx1,.tup [.int (x1 % 5),.str tx2],.tup [.non,.tup [.int (x1 % 3),.tup [.int (x2 % 4)]]]] [.int (x1 - 12),.int (x1 - 12),.int (x1 - 12),.int (x3 - (10:Int) ^ (30:Int).toNat),.str tx1,.ref p1,.ref p4]:=
  .cons (.int _) (.cons (.int _) (.cons (.int _) (.cons (.int _) (.cons (.str _) (.cons (rp1.keep (Same.tups s38)) (.cons (rp4.keep (Same.tups (s67.trans s78))) .nil))))))
 have all:∀t∈ [Th.int (x1 - 12),.int (x1 - 12),.int (x1 - 12),.int (x3 - (10:Int) ^ (30:Int).toNat),.str tx1,.tup [.int (x1 % 5),.str tx2],.tup [.non,.tup [.int (x1 % 3),.tup [.int (x2 % 4)]]]],KeyT t:=by
  intro t ht
  have k1:KeyT (.int (x1 - 12)):=zbe (by omega) (by omega)
  have k2:KeyT (.int (x3 - (10:Int) ^ (30:Int).toNat)):=by
   rw [e30] at b3 ⊢
   exact zbe (by omega) (by omega)
  have k4:KeyT (.tup [.int (x1 % 5),.str tx2]):=⟨⟨by show (2:Nat)≤40;decide,⟨by omega,by omega⟩,htx2,trivial⟩,by show (1:Nat)≤3;decide,by show (3:Nat)≤10;decide,fun z=>by cases z⟩
  have k5:KeyT (.tup [.non,.tup [.int (x1 % 3),.tup [.int (x2 % 4)]]]):=⟨⟨by show (2:Nat)≤40;decide,trivial,⟨by show (2:Nat)≤40;decide,⟨by omega,by omega⟩,⟨by show (1:Nat)≤40;decide,⟨by omega,by omega⟩,trivial⟩,trivial⟩,trivial⟩,by show (3:Nat)≤3;decide,by show (6:Nat)≤10;decide,fun z=>by cases z⟩
  simp only [List.mem_cons,List.not_mem_nil,or_false] at ht
  rcases ht with h | h | h | h | h | h | h <;> subst h
  ·exact k1
  ·exact k1
  ·exact k1
  ·exact k2
  ·exact zfm htx1
  ·exact k4
  ·exact k5
 obtain ⟨v,t,ev,rv,kt⟩:=rl.pick b0.1 (by show x0 < ((7:Nat):Int);omega) all
 have es8:SqL K H8 r [.int x0,.int x1,.int x2,.int x3]:=SqL.of (s38 _ _ (sb _ _ er))
 exact ⟨_,rfl,_,rfl,r,_,_,_,rfl,rfl,es8,rfl,rr,_,_,_,rfl,rfl,SqL.of e8,ev,q t v H8 ((s01.trans sb).trans s38) rv kt⟩
theorem zjs (D:Dfn K mg "_law_worth" zbB ["cell","way"]) (F_law_parts:Fn P w K mg base "_law_parts" 2 ["cell","way","least"] ze4) (F_law_text:Fn P w K mg base "_law_text" 1 ["number","many"] ze7):Fn P w K mg base "_law_worth" 3 ["cell","way"] zeM:=by
 refine D.ok (k:=2) zbn (fun vs H Q E h=>?_) (fun f cdv A outer s H vs Q E hr h=>?_)
 ·obtain ⟨c,m,rfl,_⟩:=h;rfl
 obtain ⟨c,m,rfl,q⟩:=h
 refine ⟨_,(zd (zj (i:=2) zbn.nd rfl (Or.inl rfl) (zC F_law_parts hr (by omega) (by rfl) (za (pv 0) (za (pv 1) (za (zM (za zb (za zb (za (zo zO (zo zaE zb (zo zaN zb zb)) zb) zc)))) zc)))))
 (ze (zl (zm zB (zM (za (zo za0 (zm zB (pv 2) zb (fun _ _=>rfl)) zb) (za (zo za0 (zm zB (pv 2) zb (fun _ _=>rfl)) (zo zaN zb zb)) (za (zC F_law_text hr (by omega) (by rfl) (za (zm zB (pv 2) zb (fun _ _=>rfl)) (za (zm zB (pv 2) zb (fun _ _=>rfl)) zc))) (za (zJ (za (zm zB (pv 2) zb (fun _ _=>rfl)) (za (zJ zc) (za (zJ (za zP zc)) zc)))) zc))))) (zm zB (pv 2) zb (fun _ _=>rfl)) (fun _ _=>rfl))))),?_⟩
 have e30:(10:Int) ^ (30:Int).toNat=1000000000000000000000000000000:=by decide+kernel
 refine ⟨_,rfl,_,rfl,_,_,rfl,rfl,⟨by decide,by decide,by decide⟩,_,_,rfl,rfl,.inl ⟨by decide,by decide⟩,_,_,rfl,rfl,szl (show 3≤1000 by decide),fun p hp=>?_⟩
 refine ⟨c,m,p,[4,9,2 * (10:Int) ^ (30:Int).toNat+1],rfl,zf,by decide,by decide+kernel,fun r xs H1 s1 er hb=>?_⟩
 have s01:Same H H1:=(zk (Same.refl H) hp).trans s1
 obtain ⟨x0,x1,x2,rfl,b0,b1,b2⟩:=zjH hb
 have es:SqL K H1 r [.int x0,.int x1,.int x2]:=SqL.of er
 refine ⟨_,rfl,r,_,_,_,rfl,rfl,es,rfl,_,_,rfl,rfl,_,rfl,r,_,_,_,rfl,rfl,es,rfl,_,_,rfl,rfl,⟨by decide,by decide,by decide⟩,_,_,rfl,rfl,?_⟩
 refine ⟨_,rfl,r,_,_,_,rfl,rfl,es,rfl,_,rfl,r,_,_,_,rfl,rfl,es,rfl,x2,_,rfl,by omega,by omega,fun tx1 htx1=>?_⟩
 refine ⟨_,rfl,r,_,_,_,rfl,rfl,es,rfl,szl (show 0≤1000 by decide),fun p1 h1=>?_⟩
 have s12:=zk (o:=.tup []) (Same.refl H1) h1
 have rp1:=(RepL.nil (H:=H1)).new h1
 generalize upd H1 p1 (.tup [])=H2 at s12 rp1
 refine ⟨szl (show 1≤1000 by decide),fun p2 h2=>?_⟩
 have s23:=zk (o:=.tup [.non]) (Same.refl H2) h2
 have rp2:=(RepL.cons (H:=H2) .non .nil).new h2
 generalize upd H2 p2 (.tup [.non])=H3 at s23 rp2
 refine ⟨szl (show 3≤1000 by decide),fun p3 h3=>?_⟩
 have s34:=zk (o:=.tup [.int x1,.ref p1,.ref p2]) (Same.refl H3) h3
 have rp3:=(RepL.cons (.int x1) (.cons (rp1.keep (Same.tups s23)) (.cons rp2 .nil))).new h3
 generalize upd H3 p3 (.tup [.int x1,.ref p1,.ref p2])=H4 at s34 rp3
 refine ⟨szl (show 4≤1000 by decide),fun l hl=>?_⟩
 have s45:=zk (o:=.lst [.int (x1 - 4),.int (x2 - (10:Int) ^ (30:Int).toNat),.str tx1,.ref p3]) (Same.refl H4) hl
 have e5:upd H4 l (.lst [.int (x1 - 4),.int (x2 - (10:Int) ^ (30:Int).toNat),.str tx1,.ref p3]) l=some (.lst [.int (x1 - 4),.int (x2 - (10:Int) ^ (30:Int).toNat),.str tx1,.ref p3]):=zf
 generalize upd H4 l (.lst [.int (x1 - 4),.int (x2 - (10:Int) ^ (30:Int).toNat),.str tx1,.ref p3])=H5 at s45 e5
 have s15:=((s12.trans s23).trans s34).trans s45
 have rl:RepL H5 [.int (x1 - 4),.int (x2 - (10:Int) ^ (30:Int).toNat),.str tx1,.tup [.int x1,.tup [],.tup [.non]]] [.int (x1 - 4),.int (x2 - (10:Int) ^ (30:Int).toNat),.str tx1,.ref p3]:=
  .cons (.int _) (.cons (.int _) (.cons (.str _) (.cons (rp3.keep (Same.tups s45)) .nil)))
 have all:∀t∈ [Th.int (x1 - 4),.int (x2 - (10:Int) ^ (30:Int).toNat),.str tx1,.tup [.int x1,.tup [],.tup [.non]]],KeyT t:=by
  intro t ht
  have k2:KeyT (.int (x2 - (10:Int) ^ (30:Int).toNat)):=by
   rw [e30] at b2 ⊢
   exact zbe (by omega) (by omega)
  simp only [List.mem_cons,List.not_mem_nil,or_false] at ht
  rcases ht with h | h | h | h <;> subst h
  ·exact zbe (by omega) (by omega)
  ·exact k2
  ·exact zfm htx1
  ·exact ⟨⟨by show (3:Nat)≤40;decide,⟨by omega,by omega⟩,⟨by show (0:Nat)≤40;decide,trivial⟩,⟨by show (1:Nat)≤40;decide,trivial,trivial⟩,trivial⟩,by show (2:Nat)≤3;decide,by show (5:Nat)≤10;decide,fun z=>by cases z⟩
 obtain ⟨v,t,ev,rv,kt⟩:=rl.pick b0.1 (by show x0 < ((4:Nat):Int);omega) all
 have es5:SqL K H5 r [.int x0,.int x1,.int x2]:=SqL.of (s15 _ _ er)
 exact ⟨_,rfl,r,_,_,_,rfl,rfl,es5,rfl,l,_,_,_,rfl,rfl,SqL.of e5,ev,q t v H5 (s01.trans s15) rv kt⟩
end
end Pv
namespace L2
open PySem PySem.Spec PyProof.Rows
section
variable {X:Cx}
end
end L2
namespace L2
open PySem PySem.Spec PyProof.Rows
section
variable {X:Cx}
def rSlW (K:PySem.W.Frag):V→Option Int→Option Int→Hp→VK→Prop:=fun x lo hi H Q=>∃a xs,x=.ref a∧SqT K H a xs∧HT.sIx xs.length 0 lo=0∧HT.sIx xs.length xs.length hi=xs.length∧Q (.ref a) H
end
end L2
namespace Px
open PySem PySem.W PySem.Builtin
section
variable {prog:Program}{w:World}{A:Around}{E:Value→Shared→Prop}{s:Shared}{K:Frag}{x D:Addr}{ox:Obj}{od:Option Obj}
end
end Px
namespace L2
open PySem PySem.Spec PyProof.Rows Px
section
variable {X:Cx}
end
end L2
namespace L2
open PySem PySem.Spec PyProof.Rows Px
structure MkrX (P:Program)(w:World)(K:PySem.W.Frag)(mg:Str→Option Value)(base:Heap)(x:Str)(C:Addr)(k:Nat)(ps:List Str)(sp:Sp):Prop where
 ex:∃f fd,FnOk P w K mg base (CX1 P w) k f fd ps sp∧Binds K fd ps []∧Mk K C f∧mg x=some (.ref C)
section
variable {P:Program}{w:World}{K:PySem.W.Frag}{mg:Str→Option Value}{base:Heap}{x qual:Str}{C:Addr}{st:Stmt}{ps N:List Str}{sp:Sp}{k:Nat}
theorem Mkd.okX (D:Mkd K mg x C qual st ps)(S:zv N ps (zg st))(len:∀vs H Q E,sp vs H Q E→vs.length=ps.length)
  (hbody:∀(f:Addr) (cdv:Value) (A:Around) (outer:List Env) (s:Shared) (H:Hp) (vs:List V) (Q:VK) (E:XK),Room k (A.deeper (envOfC qual (zg st) s.heap.objs.size f cdv))→sp vs H Q E→
   ∃t,PSs (cxOf (CX1 P w) P w K mg base N qual (zg st) f cdv A outer s H E) (zY st) t∧t {nx:=fun _ H'=>Q .non H',rt:=Q} (start N vs) H):MkrX P w K mg base x C (k+1) ps sp:=by
 obtain ⟨f,fd,F,b,mk,mm⟩:=D.ex
 exact ⟨f,fd,F.okX S len (fun cdv A outer s H vs Q E hr h=>hbody f cdv A outer s H vs Q E hr h),b,mk,mm⟩
end
def zm1 (C:Addr)(sp:Sp)(E:St→XK)(t:TA):TE:=fun σ H Q=>t σ H fun vs H1=>∀x dx,H1 x=none→H1 dx=none→dx≠x→
 sp (.ref x::vs) (upd (upd H1 dx (.own x)) x (.ins C dx [])) (fun v H2=>v=.non∧Q (.ref x) H2) (E σ)
section
variable {X:Cx}{CX:CXT}{x:Str}{C f:Addr}{fd:FuncData}{ps:List Str}{sp:Sp}{k k':Nat}{e:Expr}{es:List Expr}{t:TA}{p pos:Pos}{E:XK}{ES:St→XK}
end
section
variable {X:Cx}{K:PySem.W.Frag}{o e:Expr}{es:List Expr}{to:TE}{t:TA}{name:Str}{apos cpos:Pos}{T id:String}{r:V→List V→Hp→VK→Prop}
theorem zbd (h:X.K=K):za4 X (.builtin "isinstance") (zi3 K):=h ▸ zfC
end
end L2
namespace Px
open PySem PySem.W PySem.Builtin
open PySem.AutoSeq1 (wpAny_loadPart')
def zmQ (s:Shared)(a c:Int)(n:Nat):Result→Shared→Prop:=fun q s'=>∃h' tk acc c',q=.ok (.ret (.ref s.heap.objs.size))∧s'={s with heap:=h',toks:=tk}∧(∀b o,s.heap.get? b=some o→h'.get? b=some o)∧h'.get? s.heap.objs.size=some {cls:=.type "list",dict:=none,data:=.seq acc c',slots:= #[]}∧ItemsOf (fun i v=>∃t,v=.int (a+i * c) t) acc n
section
variable {prog:Program}{w:World}{A:Around}{E:Value→Shared→Prop}{s:Shared}
end
end Px
namespace L2
open PySem PySem.Spec PyProof.Rows Px
section
variable {X:Cx}{e:Expr}{ta:TA}{p1 p2 q1 q2:Pos}
end
end L2
namespace L2
open PySem PySem.Spec PyProof.Rows
section
variable {X:Cx}
open PySem.SeqAt in
theorem zme {pins:List (Addr ×Obj)}{σ:St}{H:Hp}{s:Shared}(I:Inv X pins σ H s){a b:Addr}{xs:List V}{A:Around}(e:SqL X.K H a xs)(e':SqL X.K H b xs)(h:∀x∈xs,zes x=true∧eqV x x=true)(hu:A.units+60 < cLine):
  RcAt A s (.ref a) (.ref b) true∧RcNeAt A s (.ref a) (.ref b) false:=by
 obtain ⟨its,r1,T1,_⟩:=I.list e
 obtain ⟨jts,r2,T2,_⟩:=I.list e'
 have n1:=r1.length
 have n2:=r2.length
 have key:∀j (h1:j < its.toArray.size) (h2:j < jts.toArray.size),EqAt A.in1 s its.toArray[j] jts.toArray[j] true:=fun j h1 h2=>by
  have h1':j < its.length:=by simpa using h1
  have h2':j < jts.length:=by simpa using h2
  have hx:xs[j]? =some xs[j]:=List.getElem?_eq_getElem (show j < xs.length by omega)
  obtain ⟨vx,ex,rx⟩:=r1.get hx
  obtain ⟨vy,ey,ry⟩:=r2.get hx
  have z1:its.toArray[j]=vx:=by
   rw [List.getElem?_eq_getElem h1'] at ex
   simpa using Option.some.inj ex
  have z2:jts.toArray[j]=vy:=by
   rw [List.getElem?_eq_getElem h2'] at ey
   simpa using Option.some.inj ey
  rw [z1,z2]
  obtain ⟨f1,f2⟩:=h xs[j] (List.getElem_mem (show j < xs.length by omega))
  have:=zlS (A:=A.in1) (s:=s) rx ry f1 f1
  rw [f2] at this
  exact this
 have hsz:its.toArray.size=jts.toArray.size:=by rw [List.size_toArray,List.size_toArray];omega
 have R:=RcAt.lists (e:=fun _=>true) T1.isList T2.isList hsz (show A.units < cLine by omega) key
 have R':=RcNeAt.lists (e:=fun _=>true) T1.isList T2.isList hsz (show A.units < cLine by omega) key
 have e3:(List.range its.toArray.size).all (fun _=>true)=true:=List.all_eq_true.mpr fun _ _=>rfl
 rw [e3] at R R'
 exact ⟨R,R'⟩
theorem zkB {k:Nat}(hr:Room k X.A):OpR X (compareOp .Eq) (fun x y H Q=>∃a b xs,x=.ref a∧y=.ref b∧SqL X.K H a xs∧SqL X.K H b xs∧(∀x∈xs,zes x=true∧eqV x x=true)∧Q (.bl true) H):=by
 intro pins s σ H x y v w Q I rx ry h
 obtain ⟨a,b,xs,rfl,rfl,e1,e2,hf,q⟩:=h
 cases (show v=Value.ref a from rx)
 cases (show w=Value.ref b from ry)
 have hu:=hr.units
 exact (zme I e1 e2 hf (by omega)).1 _ _ _ _ ⟨.bl _,H,I,rfl,q⟩
theorem zgO:∀bs:List Bool,∀x∈bs.map V.bl,zes x=true∧eqV x x=true:=fun bs x hx=>by
 obtain ⟨b,_,rfl⟩:=List.mem_map.mp hx
 cases b <;> exact ⟨rfl,rfl⟩
end
end L2
namespace L2
open PySem PySem.Spec PyProof.Rows
section
variable {X:Cx}
theorem zfJ {k:Nat}(hr:Room k X.A):OpR X (compareOp .NotEq) (fun x y H Q=>∃a b xs,x=.ref a∧y=.ref b∧SqL X.K H a xs∧SqL X.K H b []∧Q (.bl (!xs.isEmpty)) H):=by
 intro pins s σ H x y v w Q I rx ry h
 obtain ⟨a,b,xs,rfl,rfl,e,e',q⟩:=h
 cases (show v=Value.ref a from rx)
 cases (show w=Value.ref b from ry)
 have hu:=hr.units
 obtain ⟨its,r1,T1,_⟩:=I.list e
 obtain ⟨jts,r2,T2,_⟩:=I.list e'
 have n1:=r1.length
 have n2:=r2.length
 cases xs with
 | nil=>
  have z1:its=[]:=by cases its with | nil=>rfl | cons=>simp at n1
  have z2:jts=[]:=by cases jts with | nil=>rfl | cons=>simp at n2
  subst z1 z2
  exact (PySem.SeqAt.RcNeAt.lists (e:=fun _=>true) T1.isList T2.isList rfl (by omega) (fun j h1=>absurd h1 (Nat.not_lt_zero _))) _ _ _ _ ⟨.bl _,H,I,rfl,q⟩
 | cons c xs=>
  have z2:jts=[]:=by cases jts with | nil=>rfl | cons=>simp at n2
  subst z2
  have hsz:(its.toArray.size != (#[]:Array Value).size)=true:=by
   rw [List.size_toArray,bne_iff_ne,←n1,List.length_cons]
   exact Nat.succ_ne_zero _
  exact (PySem.SeqAt.RcNeAt.lists_lengths T1.isList T2.isList hsz (by omega)) _ _ _ _ ⟨.bl _,H,I,rfl,q⟩
end
end L2
namespace Pv
open PySem L2
open Tr
abbrev zce:Stmt:=top 68
theorem zcU:zv ["pairs","key","worth","k"] ["pairs","key","worth"] (zg zce):=⟨rfl,rfl,rfl,by decide+kernel,rfl,by decide+kernel,by decide+kernel⟩
theorem zcj {H:Hp}{p:Th ×Th}{v:V}(rep:Rep H (zZ p) v):∃a vk vw,v=.ref a∧H a=some (.tup [vk,vw])∧Rep H p.1 vk∧Rep H p.2 vw:=by
 obtain ⟨a,xs,e,ea,r1⟩:=rep.list
 cases r1 with
 | cons h1 r2=>
 cases r2 with
 | cons h2 r3=>
 cases r3 with
 | nil=>exact ⟨a,_,_,e,ea,h1,h2⟩
theorem zl4 {ps:List (Th ×Th)}{x w:Th}{i:Nat}{p:Th ×Th}(hs:Srt ps)(ht:∀p∈ps.take i,zh p.1 x=true)(e:ps[i]? =some p)(hp:p.1=x):insP ps x w=ps.take i++ [(x,w)]++ps.drop (i+1):=by
 have hi:i < ps.length:=(List.getElem?_eq_some_iff.mp e).1
 have e1:ps=ps.take i++(x,p.2)::ps.drop (i+1):=by
  conv=>lhs;rw [←List.take_append_drop i ps]
  rw [List.drop_eq_getElem_cons hi]
  rw [List.getElem?_eq_getElem hi] at e
  cases e
  rw [←hp]
 have hs':=hs
 rw [e1] at hs'
 have h4:=(List.pairwise_cons.mp (List.pairwise_append.mp hs').2.1).1
 have:=zh8 (w:=p.2) (w':=w) ht h4
 rw [←e1] at this
 rw [this];simp
theorem zln {ps:List (Th ×Th)}{x w:Th}{i:Nat}{p:Th ×Th}(hs:Srt ps)(ht:∀p∈ps.take i,zh p.1 x=true)(e:ps[i]? =some p)(hp:zh x p.1=true):insP ps x w=ps.take i++ [(x,w)]++ps.drop i:=by
 have hi:i < ps.length:=(List.getElem?_eq_some_iff.mp e).1
 have hd:∀q∈ps.drop i,zh x q.1=true:=fun q hq=>by
  have hs':Srt (ps.drop i):=List.Pairwise.drop hs
  rw [List.drop_eq_getElem_cons hi] at hq hs'
  rw [List.getElem?_eq_getElem hi] at e
  cases e
  rcases List.mem_cons.mp hq with rfl | hq
  ·exact hp
  ·exact zdR hp ((List.pairwise_cons.mp hs').1 q hq)
 have:=zhf (A:=ps.take i) (M:=[]) (B:=ps.drop i) (w:=w) ht hd
 rw [List.append_nil,List.take_append_drop] at this
 rw [this];rfl
theorem zj5 {ps:List (Th ×Th)}{x w:Th}(ht:∀p∈ps,zh p.1 x=true):insP ps x w=ps++ [(x,w)]:=by
 have:=zhf (A:=ps) (M:=[]) (B:=[]) (w:=w) ht (fun p h=>(nomatch h))
 rw [List.append_nil,List.append_nil] at this
 rw [this];simp;rfl
theorem RepL.app {H:Hp}:∀{ts us:List Th} {vs ws:List V},RepL H ts vs→RepL H us ws→RepL H (ts++us) (vs++ws)
 | _,_,_,_,.nil,r=>r
 | _,_,_,_,.cons h q,r=>.cons h (RepL.app q r)
structure PL (H:Hp)(pl:Addr)(ps:List (Th ×Th)):Prop where
 ex:∃xs,H pl=some (.lst xs)∧RepL H (ps.map zZ) xs
theorem PL.same {H H':Hp}{pl:Addr}{ps:List (Th ×Th)}(p:PL H pl ps)(s:Same H H'):PL H' pl ps:=by
 obtain ⟨xs,e,r⟩:=p.ex
 exact ⟨xs,s _ _ e,r.keep (Same.tups s)⟩
theorem PL.fr {H H':Hp}{pl C a d:Addr}{cs:List (Int ×Th)}{ps:List (Th ×Th)}(p:PL H pl ps)(v:VS H C a d cs)(f:Fr1 d H H'):PL H' pl ps:=by
 obtain ⟨xs,e,r⟩:=p.ex
 exact ⟨xs,v.lst f e,r.keep (v.tups f)⟩
def zjz (ps:List (Th ×Th)):Prop:=∀p∈ps,KeyT p.1∧KeyT p.2
def zhg:Sp:=fun vs H Q _=>∃(pl:Addr) (ps:List (Th ×Th)) (x w:Th) (vx vw:V),vs=[.ref pl,vx,vw]∧PL H pl ps∧Srt ps∧zjz ps∧ps.length≤300∧Rep H x vx∧KeyT x∧Rep H w vw∧∀p H',Same H H'→H p=none→PL H' p (insP ps x w)→Q (.ref p) H'
section
variable {P:Program}{w:World}{K:PySem.W.Frag}{mg:Str→Option Value}{base:Heap}{C CC:Addr}
theorem zjR (D:Dfn K mg "_law_put_in" zce ["pairs","key","worth"]) (F_law_ahead:Fn P w K mg base "_law_ahead" 11 ["one","other"] (zda 9)) (m_range:mg "range" =none) (m_len:mg "len" =none):Fn P w K mg base "_law_put_in" 12 ["pairs","key","worth"] zhg:=by
 refine D.ok (k:=11) zcU (fun vs H Q E h=>?_) (fun f cdv A outer s H vs Q E hr h=>?_)
 ·obtain ⟨pl,ps,x,w,vx,vw,rfl,_⟩:=h;rfl
 obtain ⟨pl,ps,x,w,vx,vw,rfl,⟨xs,el,rl⟩,hs,kp,h300,rx,kx,rw0,q⟩:=h
 have hxl:xs.length=ps.length:=by rw [rl.len,List.length_map]
 refine ⟨_,(zd (zaA PassesOwn.never rfl (za6 rfl m_range (za (zF (zI) (by rfl) m_len (by rfl) (za (pv 0) zc)) zc)) (z7 (i:=3) zcU.nd rfl (Or.inl rfl))
 (zd (zE (zw (zdZ hr) (zm zA (zm zB (pv 0) (pv 3) (fun _ _=>rfl)) zb (fun _ _=>rfl)) (pv 1) (zt _))
 (ze (zl (zo zbk (zo zbk (za1 zbC (pv 0) zcf (zaY (pv 3))) (zM (za (zJ (za (pv 1) (za (pv 2) zc))) zc))) (za1 zbC (pv 0) (zaY (zo zO (pv 3) zb)) zcf))))
 zu)
 (ze (zE (zS (zC F_law_ahead hr (by omega) (by rfl) (za (pv 1) (za (zm zA (zm zB (pv 0) (pv 3) (fun _ _=>rfl)) zb (fun _ _=>rfl)) zc))))
 (ze (zl (zo zbk (zo zbk (za1 zbC (pv 0) zcf (zaY (pv 3))) (zM (za (zJ (za (pv 1) (za (pv 2) zc))) zc))) (za1 zbC (pv 0) (zaY (pv 3)) zcf))))
 zu))))
 (ze (zl (zo zbk (pv 0) (zM (za (zJ (za (pv 1) (za (pv 2) zc))) zc)))))),?_⟩
 refine ⟨_,rfl,pl,_,rfl,.inl (SqL.of el),_,rfl,by omega,by omega,?_⟩
 rw [Int.toNat_natCast]
 refine za8 (n:=xs.length) (fun i σ H'=>∃k3,σ=[some (.ref pl),some vx,some vw,k3]∧Same H H'∧∀p∈ps.take i,zh p.1 x=true) ⟨_,rfl,Same.refl H,fun p h=>by rw [List.take_zero] at h;cases h⟩ ?_ ?_
 ·rintro i σ H1 hi ⟨k3,rfl,s1,ht⟩
  rw [Int.zero_add]
  have hip:i < ps.length:=by omega
  have ep:ps[i]? =some ps[i]:=List.getElem?_eq_getElem hip
  have ev:xs[i]? =some xs[i]:=List.getElem?_eq_getElem hi
  have r1:Rep H1 (zZ ps[i]) xs[i]:=(rl.at i _ _ ev (by rw [List.getElem?_map,ep];rfl)).keep (Same.tups s1)
  obtain ⟨a,vk,vw',exi,ea,rk,_⟩:=zcj r1
  have kk:=(kp _ (List.getElem_mem hip)).1
  have kd:=kk.dp
  have kxd:=kx.dp
  have el1:=s1 _ _ el
  have ix:atI xs ((i:Nat):Int)=some (.ref a):=by rw [zaI ev,exi]
  refine ⟨_,rfl,_,rfl,pl,_,_,_,rfl,rfl,SqL.of el1,ix,a,_,_,_,rfl,rfl,SqT.of ea,rfl,_,rfl,ps[i].1,x,rk,rx.keep (Same.tups s1),by omega,_,rfl,?_⟩
  have fin:∀(j:Nat) (H2:Hp) (s2:Same H H2),j≤ps.length→insP ps x w=ps.take i++ [(x,w)]++ps.drop j→∀p1,H2 p1=none→∀pt,upd H2 p1 (.lst (xs.take i)) pt=none→∀p2,upd (upd H2 p1 (.lst (xs.take i))) pt (.tup [vx,vw]) p2=none→∀p3,upd (upd (upd H2 p1 (.lst (xs.take i))) pt (.tup [vx,vw])) p2 (.lst [.ref pt]) p3=none→∀p4,upd (upd (upd (upd H2 p1 (.lst (xs.take i))) pt (.tup [vx,vw])) p2 (.lst [.ref pt])) p3 (.lst (xs.take i++ [.ref pt])) p4=none→∀p5,upd (upd (upd (upd (upd H2 p1 (.lst (xs.take i))) pt (.tup [vx,vw])) p2 (.lst [.ref pt])) p3 (.lst (xs.take i++ [.ref pt]))) p4 (.lst (xs.drop j)) p5=none→
    Q (.ref p5) (upd (upd (upd (upd (upd (upd H2 p1 (.lst (xs.take i))) pt (.tup [vx,vw])) p2 (.lst [.ref pt])) p3 (.lst (xs.take i++ [.ref pt]))) p4 (.lst (xs.drop j))) p5 (.lst (xs.take i++ [.ref pt]++xs.drop j))):=fun j H2 s2 hj hins p1 h1 pt h2 p2 h3 p3 h4 p4 h5 p5 h6=>by
   have a1:=zk (o:=.lst (xs.take i)) s2 h1
   generalize upd H2 p1 (.lst (xs.take i))=G1 at *
   have rp:=(RepL.cons (rx.keep (Same.tups a1)) (.cons (rw0.keep (Same.tups a1)) .nil)).new h2
   have a2:=zk (o:=.tup [vx,vw]) a1 h2
   generalize upd G1 pt (.tup [vx,vw])=G2 at *
   have b3:=zk (o:=.lst [.ref pt]) (Same.refl G2) h3
   generalize upd G2 p2 (.lst [.ref pt])=G3 at *
   have b4:=zk (o:=.lst (xs.take i++ [.ref pt])) b3 h4
   generalize upd G3 p3 (.lst (xs.take i++ [.ref pt]))=G4 at *
   have b5:=zk (o:=.lst (xs.drop j)) b4 h5
   generalize upd G4 p4 (.lst (xs.drop j))=G5 at *
   have b6:=zk (o:=.lst (xs.take i++ [.ref pt]++xs.drop j)) b5 h6
   have a6:Same H (upd G5 p5 (.lst (xs.take i++ [.ref pt]++xs.drop j))):=fun b o e=>b6 b o (a2 b o e)
   have h0:H p5=none:=by
    cases z:H p5 with
    | none=>rfl
    | some o=>rw [b5 _ _ (a2 _ _ z)] at h6;cases h6
   refine q p5 _ a6 h0 ⟨_,zf,?_⟩
   rw [hins,List.map_append,List.map_append,List.map_take,List.map_drop]
   have ra:=rl.keep (Same.tups a6)
   exact RepL.app (RepL.app (ra.take i) (.cons (rp.keep (Same.tups b6)) .nil)) (ra.drop j)
  cases z:eqT ps[i].1 x with
  | true=>
   have ek:ps[i].1=x:=(zaX _ _).mp z
   have hins:=zl4 (w:=w) hs ht ep ek
   refine ifT rfl ?_
   refine ⟨_,rfl,_,rfl,_,rfl,pl,_,rfl,SqL.of el1,fun p1 h1=>?_⟩
   rw [zj0 (show i≤xs.length by omega)]
   refine ⟨_,rfl,_,rfl,szl (show 2≤1000 by decide),fun pt h2=>⟨szl (show 1≤1000 by decide),fun p2 h3=>?_⟩⟩
   refine ⟨p1,p2,_,_,rfl,rfl,zk (zk (Same.refl _) h2) h3 p1 _ zf,zf,szl (by rw [List.length_take];show _+1≤1000;omega),fun p3 h4=>?_⟩
   refine ⟨_,rfl,_,rfl,_,_,rfl,rfl,_,rfl,pl,_,rfl,SqL.of (zk (zk (zk (zk (Same.refl H1) h1) h2) h3) h4 _ _ el1),fun p4 h5=>?_⟩
   rw [show ((i:Nat):Int)+1=((i+1:Nat):Int) from rfl,zfh (show i+1≤xs.length by omega)] at *
   exact ⟨p3,p4,_,_,rfl,rfl,zk (Same.refl _) h5 p3 _ zf,zf,szl (by rw [List.length_append,List.length_take,List.length_drop];show _+1+_≤1000;omega),fun p5 h6=>fin (i+1) H1 s1 (by omega) hins p1 h1 pt h2 p2 h3 p3 h4 p4 h5 p5 h6⟩
  | false=>
   have ek:ps[i].1≠x:=fun e=>by rw [e,zao] at z;cases z
   refine ifF rfl ?_
   refine ⟨_,rfl,_,rfl,_,rfl,pl,_,_,_,rfl,rfl,SqL.of el1,ix,a,_,_,_,rfl,rfl,SqT.of ea,rfl,x,ps[i].1,_,_,rfl,rx.keep (Same.tups s1),rk,by omega,by omega,kx.wf,kk.wf,fun H2 s2=>⟨_,rfl,?_⟩⟩
   have s02:Same H H2:=fun b o e=>s2 b o (s1 b o e)
   have el2:=s2 _ _ el1
   cases y:zh x ps[i].1 with
   | true=>
    have hins:=zln (w:=w) hs ht ep y
    refine ifT rfl ?_
    refine ⟨_,rfl,_,rfl,_,rfl,pl,_,rfl,SqL.of el2,fun p1 h1=>?_⟩
    rw [zj0 (show i≤xs.length by omega)]
    refine ⟨_,rfl,_,rfl,szl (show 2≤1000 by decide),fun pt h2=>⟨szl (show 1≤1000 by decide),fun p2 h3=>?_⟩⟩
    refine ⟨p1,p2,_,_,rfl,rfl,zk (zk (Same.refl _) h2) h3 p1 _ zf,zf,szl (by rw [List.length_take];show _+1≤1000;omega),fun p3 h4=>?_⟩
    refine ⟨_,rfl,_,rfl,_,rfl,pl,_,rfl,SqL.of (zk (zk (zk (zk (Same.refl H2) h1) h2) h3) h4 _ _ el2),fun p4 h5=>?_⟩
    rw [zfh (show i≤xs.length by omega)] at *
    exact ⟨p3,p4,_,_,rfl,rfl,zk (Same.refl _) h5 p3 _ zf,zf,szl (by rw [List.length_append,List.length_take,List.length_drop];show _+1+_≤1000;omega),fun p5 h6=>fin i H2 s02 (by omega) hins p1 h1 pt h2 p2 h3 p3 h4 p4 h5 p5 h6⟩
   | false=>
    refine ifF rfl ⟨_,rfl,s02,fun p hp=>?_⟩
    rw [List.take_add_one,ep] at hp
    rcases List.mem_append.mp hp with hp | hp
    ·exact ht p hp
    ·have:p=ps[i]:=by simpa using hp
     rw [this]
     exact ziC y (Ne.symm ek)
 ·rintro σ H1 ⟨k3,rfl,s1,ht⟩
  have ht':∀p∈ps,zh p.1 x=true:=fun p hp=>ht p (by rw [hxl,List.take_length];exact hp)
  refine ⟨_,rfl,_,rfl,_,rfl,szl (show 2≤1000 by decide),fun pt h2=>⟨szl (show 1≤1000 by decide),fun p2 h3=>?_⟩⟩
  have rp:=(RepL.cons (rx.keep (Same.tups s1)) (.cons (rw0.keep (Same.tups s1)) .nil)).new h2
  have a2:=zk (o:=.tup [vx,vw]) s1 h2
  generalize upd H1 pt (.tup [vx,vw])=G2 at *
  have b3:=zk (o:=.lst [.ref pt]) (Same.refl G2) h3
  have e2:upd G2 p2 (.lst [.ref pt]) p2=some (.lst [.ref pt]):=zf
  generalize upd G2 p2 (.lst [.ref pt])=G3 at *
  have a3:Same H G3:=fun b o e=>b3 b o (a2 b o e)
  refine ⟨pl,p2,_,_,rfl,rfl,a3 _ _ el,e2,szl (by show _+1≤1000;omega),fun p3 h4=>?_⟩
  have a4:=zk (o:=.lst (xs++ [.ref pt])) a3 h4
  have h0:H p3=none:=by
   cases z:H p3 with
   | none=>rfl
   | some o=>rw [a3 _ _ z] at h4;cases h4
  refine q p3 _ a4 h0 ⟨_,zf,?_⟩
  rw [zj5 ht',List.map_append]
  exact RepL.app (rl.keep (Same.tups a4)) (.cons ((rp.keep (Same.tups b3)).keep (Same.tups (zk (Same.refl G3) h4))) .nil)
end
end Pv
namespace Pv
open PySem L2
open Tr
def Abv:Tr→Prop
 | nil=>True
 | node l k _ r=>(∀p∈l.ps,zaV k p.1=true)∧(∀p∈r.ps,zaV k p.1=true)∧Abv l∧Abv r
theorem zaa {l r:Tr}{k w:Th}{p:Th ×Th}:p∈(node l k w r).ps↔p∈l.ps∨p=(k,w)∨p∈r.ps:=by
 show p∈l.ps++(k,w)::r.ps↔_
 rw [List.mem_append,List.mem_cons]
theorem Abv.top {l r:Tr}{k w:Th}(h:Abv (node l k w r)){p:Th ×Th}(hp:p∈(node l k w r).ps):p.1=k∨zaV k p.1=true:=by
 rcases zaa.mp hp with hp | hp | hp
 ·exact .inr (h.1 p hp)
 ·rw [hp];exact .inl rfl
 ·exact .inr (h.2.1 p hp)
theorem Abv.kid {x:Th}{T:Tr}(h:Abv T):Abv (T.kid x):=by
 cases T with
 | nil=>exact trivial
 | node l k w r=>
  show Abv (if zh k x=true then r else l)
  split
  ·exact h.2.2.2
  ·exact h.2.2.1
theorem Abv.down {x:Th}:∀{n:Nat} {T:Tr},Abv T→Abv (down x n T)
 | 0,_,h=>h
 | n+1,_,h=>Abv.down (n:=n) h.kid
theorem zbQ {x:Th}:∀{n:Nat} {T:Tr} {p:Th ×Th},(p∈(spl x n T).1.ps∨p∈(spl x n T).2.ps)→p∈T.ps
 | 0,T,p,h=>by
  rcases h with h | h
  ·exact h
  ·cases h
 | n+1,nil,p,h=>by rcases h with h | h <;> cases h
 | n+1,node l k w r,p,h=>by
  have h':p∈(if zh k x=true then (node l k w (spl x n r).1,(spl x n r).2) else ((spl x n l).1,node (spl x n l).2 k w r)).1.ps∨p∈(if zh k x=true then (node l k w (spl x n r).1,(spl x n r).2) else ((spl x n l).1,node (spl x n l).2 k w r)).2.ps:=h
  by_cases c:zh k x=true
  ·rw [if_pos c] at h'
   rcases h' with h' | h'
   ·rcases zaa.mp h' with h' | h' | h'
    ·exact zaa.mpr (.inl h')
    ·exact zaa.mpr (.inr (.inl h'))
    ·exact zaa.mpr (.inr (.inr (zbQ (.inl h'))))
   ·exact zaa.mpr (.inr (.inr (zbQ (.inr h'))))
  ·rw [if_neg c] at h'
   rcases h' with h' | h'
   ·exact zaa.mpr (.inl (zbQ (.inl h')))
   ·rcases zaa.mp h' with h' | h' | h'
    ·exact zaa.mpr (.inl (zbQ (.inr h')))
    ·exact zaa.mpr (.inr (.inl h'))
    ·exact zaa.mpr (.inr (.inr h'))
theorem Abv.spl {x:Th}:∀{n:Nat} {T:Tr},Abv T→Abv (Tr.spl x n T).1∧Abv (Tr.spl x n T).2
 | 0,T,h=>⟨h,trivial⟩
 | n+1,nil,_=>⟨trivial,trivial⟩
 | n+1,node l k w r,h=>by
  show Abv (if zh k x=true then (node l k w (Tr.spl x n r).1,(Tr.spl x n r).2) else ((Tr.spl x n l).1,node (Tr.spl x n l).2 k w r)).1∧Abv (if zh k x=true then (node l k w (Tr.spl x n r).1,(Tr.spl x n r).2) else ((Tr.spl x n l).1,node (Tr.spl x n l).2 k w r)).2
  by_cases c:zh k x=true
  ·rw [if_pos c]
   obtain ⟨i1,i2⟩:=Abv.spl (x:=x) (n:=n) h.2.2.2
   exact ⟨⟨h.1,fun p hp=>h.2.1 p (zbQ (.inl hp)),h.2.2.1,i1⟩,i2⟩
  ·rw [if_neg c]
   obtain ⟨i1,i2⟩:=Abv.spl (x:=x) (n:=n) h.2.2.1
   exact ⟨i1,⟨fun p hp=>h.1 p (zbQ (.inr hp)),h.2.1,i2,h.2.2.2⟩⟩
def Over (x:Th):Nat→Tr→Tr→Prop
 | 0,_,_=>True
 | _+1,nil,_=>True
 | n+1,node l k _ r,S=>(∀p∈S.ps,zaV k p.1=true)∧Over x n (if zh k x=true then r else l) S
theorem zdc {x:Th}:∀{n:Nat} {T S:Tr} {p:Th ×Th},p∈(plug x n T S).ps→p∈T.ps∨p∈S.ps
 | 0,_,_,_,h=>.inr h
 | n+1,nil,_,_,h=>by cases h
 | n+1,node l k w r,S,p,h=>by
  have h':p∈(if zh k x=true then node l k w (plug x n r S) else node (plug x n l S) k w r).ps:=h
  by_cases c:zh k x=true
  ·rw [if_pos c] at h'
   rcases zaa.mp h' with h' | h' | h'
   ·exact .inl (zaa.mpr (.inl h'))
   ·exact .inl (zaa.mpr (.inr (.inl h')))
   ·rcases zdc h' with h' | h'
    ·exact .inl (zaa.mpr (.inr (.inr h')))
    ·exact .inr h'
  ·rw [if_neg c] at h'
   rcases zaa.mp h' with h' | h' | h'
   ·rcases zdc h' with h' | h'
    ·exact .inl (zaa.mpr (.inl h'))
    ·exact .inr h'
   ·exact .inl (zaa.mpr (.inr (.inl h')))
   ·exact .inl (zaa.mpr (.inr (.inr h')))
theorem Abv.plug {x:Th}:∀{n:Nat} {T S:Tr},Abv T→Abv S→Over x n T S→Abv (Tr.plug x n T S)
 | 0,_,_,_,h,_=>h
 | n+1,nil,_,_,_,_=>trivial
 | n+1,node l k w r,S,h,hS,ho=>by
  show Abv (if zh k x=true then node l k w (Tr.plug x n r S) else node (Tr.plug x n l S) k w r)
  obtain ⟨o1,o2⟩:=ho
  by_cases c:zh k x=true
  ·rw [if_pos c] at o2 ⊢
   refine ⟨h.1,fun p hp=>?_,h.2.2.1,Abv.plug h.2.2.2 hS o2⟩
   rcases zdc hp with hp | hp
   ·exact h.2.1 p hp
   ·exact o1 p hp
  ·rw [if_neg c] at o2 ⊢
   refine ⟨fun p hp=>?_,h.2.1,Abv.plug h.2.2.1 hS o2,h.2.2.2⟩
   rcases zdc hp with hp | hp
   ·exact h.1 p hp
   ·exact o1 p hp
def Tr.joinT:Tr→Tr→Tr
 | nil,R=>R
 | node l k w r,nil=>node l k w r
 | node l k w r,node l' k' w' r'=>if zaV k k'=true then node l k w (joinT r (node l' k' w' r')) else node (joinT (node l k w r) l') k' w' r'
 termination_by L R=>sizeOf L+sizeOf R
theorem zfu:∀(L R:Tr),(joinT L R).ps=L.ps++R.ps
 | nil,R=>by rw [joinT];rfl
 | node l k w r,nil=>by rw [joinT];exact (List.append_nil _).symm
 | node l k w r,node l' k' w' r'=>by
  rw [joinT]
  by_cases c:zaV k k'=true
  ·rw [if_pos c]
   show l.ps++(k,w)::(joinT r (node l' k' w' r')).ps=(l.ps++(k,w)::r.ps)++_
   rw [zfu r (node l' k' w' r')]
   simp
  ·rw [if_neg c]
   show (joinT (node l k w r) l').ps++(k',w')::r'.ps=_++(l'.ps++(k',w')::r'.ps)
   rw [zfu (node l k w r) l']
   simp
 termination_by L R=>sizeOf L+sizeOf R
def Tr.cutT (x:Th)(T:Tr):Tr:=
 match own x T with
 | nil=>T
 | node l _ _ r=>plug x (wl x T - 1) T (joinT l r)
def offP (ps:List (Th ×Th))(x:Th):List (Th ×Th):=ps.filter fun p=>!eqT p.1 x
end Pv
namespace Pv
open PySem L2
open Tr
abbrev zim:Stmt:=top 49
theorem zjv:zv ["vault","root","key","way","own"] ["vault","root","key"] (zg zim):=⟨rfl,rfl,rfl,by decide+kernel,rfl,by decide+kernel,by decide+kernel⟩
abbrev zfn:Stmt:=top 54
theorem zak:zv ["vault","left","right","count","left_count","right_count","down","one","other","both","root","step"] ["vault","left","right","count"] (zg zfn):=⟨rfl,rfl,rfl,by decide+kernel,rfl,by decide+kernel,by decide+kernel⟩
abbrev zi9:Stmt:=top 53
theorem zlN:zv ["vault","left","right"] ["vault","left","right"] (zg zi9):=⟨rfl,rfl,rfl,by decide+kernel,rfl,by decide+kernel,by decide+kernel⟩
abbrev scut:Stmt:=top 52
theorem ziK:zv ["vault","root","key","way","own"] ["vault","root","key"] (zg scut):=⟨rfl,rfl,rfl,by decide+kernel,rfl,by decide+kernel,by decide+kernel⟩
abbrev Stp:=Tr ×Bool ×Nat
def zm3 (s:Stp):Th:=.tup [s.1.thing,.int (if s.2.1=true then 3 else 2),.int (s.2.2:Int)]
def app:Stp→Tr→Tr
 | (nil,_,_),X=>X
 | (node l k w r,b,_),X=>if b=true then node l k w X else node X k w r
inductive zcp (L0 R0:Tr):List Stp→Tr→Tr→Prop
 | base:zcp L0 R0 [] L0 R0
 | left {st:List Stp} {l r l' r':Tr} {k w k' w':Th} (h:zcp L0 R0 st (node l k w r) (node l' k' w' r')) (c:zaV k k'=true):zcp L0 R0 ((node l k w r,true,(node l k w r).cnt+(node l' k' w' r').cnt)::st) r (node l' k' w' r')
 | right {st:List Stp} {l r l' r':Tr} {k w k' w':Th} (h:zcp L0 R0 st (node l k w r) (node l' k' w' r')) (c:zaV k k'=false):zcp L0 R0 ((node l' k' w' r',false,(node l k w r).cnt+(node l' k' w' r').cnt)::st) (node l k w r) l'
theorem zgd (L R:Tr):(joinT L R).cnt=L.cnt+R.cnt:=by
 show (joinT L R).ps.length=_
 rw [zfu,List.length_append]
theorem zcp.back {L0 R0 L R:Tr}{s:Stp}{st:List Stp}(h:zcp L0 R0 (s::st) L R):∃L' R',zcp L0 R0 st L' R'∧joinT L' R'=app s (joinT L R)∧s.2.2=(joinT L' R').cnt∧(s.1=L'∨s.1=R'):=by
 cases h with
 | left h c=>
  refine ⟨_,_,h,?_,(zgd _ _).symm,.inl rfl⟩
  rw [joinT,if_pos c];rfl
 | right h c=>
  refine ⟨_,_,h,?_,(zgd _ _).symm,.inr rfl⟩
  rw [joinT,if_neg (by rw [c];exact Bool.false_ne_true)];rfl
theorem zcp.cnt {L0 R0 L R:Tr}{st:List Stp}(h:zcp L0 R0 st L R):L.cnt+R.cnt≤L0.cnt+R0.cnt:=by
 induction h with
 | base=>exact Nat.le_refl _
 | left h c ih=>rw [zcx] at ih;omega
 | right h c ih=>
  rename_i l r l' r' k w k' w'
  have:=zcx l' k' w' r'
  omega
theorem zcp.end {L0 R0 L R:Tr}(h:zcp L0 R0 [] L R):L=L0∧R=R0:=by cases h;exact ⟨rfl,rfl⟩
def zhv:Sp:=fun vs H Q _=>∃(v:V) (k w:Th) (b:Bool) (l r c n m:Int),vs=[v,.int (if b=true then 3 else 2),.int n,.int m]∧Rep H (z9 k w l r c) v∧∀p H',Same H H'→Rep H' (if b=true then z9 k w l n m else z9 k w n r m) (.ref p)→Q (.ref p) H'
def znf (C CC:Addr):Sp:=fun vs H Q E=>∃(a d:Addr) (cs:List (Int ×Th)) (T:Tr) (x:Th) (vx:V),vs=[.ref a,.int T.root,vx]∧VS H C a d cs∧TOk cs T∧Rep H x vx∧KeyT x∧cs.length≤900000∧Cl CC E∧
 ∀cs' p H',Fr1 d H H'→VS H' C a d cs'→Sub cs cs'→(spl x (wl x T) T).1.InV cs'→(spl x (wl x T) T).2.InV cs'→cs'.length≤cs.length+300→H' p=some (.tup [.int (spl x (wl x T) T).1.root,.int (spl x (wl x T) T).2.root])→Q (.ref p) H'
def zmb (C CC:Addr):Sp:=fun vs H Q E=>∃(a d:Addr) (cs:List (Int ×Th)) (L R:Tr) (c:Int),vs=[.ref a,.int L.root,.int R.root,.int c]∧VS H C a d cs∧TOk cs L∧TOk cs R∧(L.cnt:Int) < c∧(R.cnt:Int) < c∧L.cnt+R.cnt≤300∧cs.length≤900000∧Cl CC E∧
 ∀cs' H',Fr1 d H H'→VS H' C a d cs'→Sub cs cs'→(joinT L R).InV cs'→cs'.length≤cs.length+300→Q (.int (joinT L R).root) H'
def znd (C CC:Addr):Sp:=fun vs H Q E=>∃(a d:Addr) (cs:List (Int ×Th)) (L R:Tr),vs=[.ref a,.int L.root,.int R.root]∧VS H C a d cs∧TOk cs L∧TOk cs R∧L.cnt+R.cnt≤300∧cs.length≤900000∧Cl CC E∧
 ∀cs' H',Fr1 d H H'→VS H' C a d cs'→Sub cs cs'→(joinT L R).InV cs'→cs'.length≤cs.length+300→Q (.int (joinT L R).root) H'
def znw (C CC:Addr):Sp:=fun vs H Q E=>∃(a d:Addr) (cs:List (Int ×Th)) (T:Tr) (x:Th) (vx:V),vs=[.ref a,.int T.root,vx]∧VS H C a d cs∧TOk cs T∧Rep H x vx∧KeyT x∧cs.length≤800000∧Cl CC E∧
 ∀cs' H',Fr1 d H H'→VS H' C a d cs'→Sub cs cs'→(cutT x T).InV cs'→cs'.length≤cs.length+600→Q (.int (cutT x T).root) H'
section
variable {P:Program}{w:World}{K:PySem.W.Frag}{mg:Str→Option Value}{base:Heap}{C CC:Addr}{x:Str}{t1 t2 t3 t4 t5 t6 t7:Tok}
theorem zik (D:Dfn K mg "with_tree" zcX ["node","side","root","count"]) (g_KEY:mg "KEY" =some (.int 0 t1)) (g_WORTH:mg "WORTH" =some (.int 1 t2)) (g_LEFT:mg "LEFT" =some (.int 2 t3)) (g_RIGHT:mg "RIGHT" =some (.int 3 t4)):Fn P w K mg base "with_tree" 1 ["node","side","root","count"] zhv:=by
 refine D.ok (k:=0) zfO (fun vs H Q E h=>?_) (fun f cdv A outer s H vs Q E hr h=>?_)
 ·obtain ⟨v,k,w,b,l,r,c,n,m,rfl,_⟩:=h;rfl
 obtain ⟨v,k,w,b,l,r,c,n,m,rfl,rn,q⟩:=h
 obtain ⟨p,vk,vw,rfl,ea,rk,rw'⟩:=zK rn
 have et:SqT K H p [vk,vw,.int l,.int r,.int c]:=SqT.of ea
 refine ⟨_,(zd (zE (zw zac (pv 1) (zx (v:=.int 2) (by rfl) g_LEFT ⟨_,rfl⟩) (zt _))
 (ze (zl (zJ (za (zm zA (pv 0) (zx (v:=.int 0) (by rfl) g_KEY ⟨_,rfl⟩) (fun _ _=>rfl)) (za (zm zA (pv 0) (zx (v:=.int 1) (by rfl) g_WORTH ⟨_,rfl⟩) (fun _ _=>rfl)) (za (pv 2) (za (zm zA (pv 0) (zx (v:=.int 3) (by rfl) g_RIGHT ⟨_,rfl⟩) (fun _ _=>rfl)) (za (pv 3) zc))))))))
 zu)
 (ze (zl (zJ (za (zm zA (pv 0) (zx (v:=.int 0) (by rfl) g_KEY ⟨_,rfl⟩) (fun _ _=>rfl)) (za (zm zA (pv 0) (zx (v:=.int 1) (by rfl) g_WORTH ⟨_,rfl⟩) (fun _ _=>rfl)) (za (zm zA (pv 0) (zx (v:=.int 2) (by rfl) g_LEFT ⟨_,rfl⟩) (fun _ _=>rfl)) (za (pv 2) (za (pv 3) zc))))))))),?_⟩
 refine ⟨_,rfl,rfl,_,rfl,?_⟩
 rw [zR]
 cases b with
 | true=>
  refine ifF (by rfl) ?_
  refine ⟨_,rfl,p,_,_,_,rfl,rfl,et,rfl,_,rfl,p,_,_,_,rfl,rfl,et,rfl,_,rfl,p,_,_,_,rfl,rfl,et,rfl,_,rfl,_,rfl,szl (show 5≤1000 by decide),fun p' hp'=>?_⟩
  refine q p' _ (zk (Same.refl H) hp') ?_
  rw [if_pos rfl]
  exact (RepL.cons rk (.cons rw' (.cons (.int _) (.cons (.int _) (.cons (.int _) .nil))))).new hp'
 | false=>
  refine ifT (by rfl) ?_
  refine ⟨_,rfl,p,_,_,_,rfl,rfl,et,rfl,_,rfl,p,_,_,_,rfl,rfl,et,rfl,_,rfl,_,rfl,p,_,_,_,rfl,rfl,et,rfl,_,rfl,szl (show 5≤1000 by decide),fun p' hp'=>?_⟩
  refine q p' _ (zk (Same.refl H) hp') ?_
  rw [if_neg Bool.false_ne_true]
  exact (RepL.cons rk (.cons rw' (.cons (.int _) (.cons (.int _) (.cons (.int _) .nil))))).new hp'
end
end Pv
namespace Pv
open PySem L2
abbrev zd4:Stmt:=top 25
theorem zhL:zv ["vault","root"] ["vault","root"] (zg zd4):=⟨rfl,rfl,rfl,by decide+kernel,rfl,by decide+kernel,by decide+kernel⟩
abbrev zgC:Stmt:=top 37
theorem zhs:zv ["vault","root","key","way"] ["vault","root","key"] (zg zgC):=⟨rfl,rfl,rfl,by decide+kernel,rfl,by decide+kernel,by decide+kernel⟩
structure Nd where
 k:Th
 w:Th
 l:Int
 r:Int
 c:Int
abbrev Nd.th (n:Nd):Th:=z9 n.k n.w n.l n.r n.c
def isW:Th→Bool
 | .int _=>true
 | _=>false
def isR:Th→Bool
 | .int i=>decide (0≤i)
 | _=>false
def zeL:Th→Bool
 | .int i=>decide (1≤i) && decide (i≤300)
 | _=>false
def isN:Th→Bool
 | .tup [k,w,l,r,c]=>!decide (k=.non) && (!decide (w=.non) && (isR l && (isR r && zeL c)))
 | _=>false
def ndOf:Th→Option Nd
 | .tup [k,w,.int l,.int r,.int c]=>if isN (.tup [k,w,.int l,.int r,.int c])=true then some ⟨k,w,l,r,c⟩ else none
 | _=>none
def ben (cs:List (Int ×Th))(n m:Int):Except Bool Nd:=
 match zL cs n with
 | none=>.error false
 | some t=>match ndOf t with
  | none=>.error true
  | some nd=>if nd.c < m then .ok nd else .error true
def zai (cs:List (Int ×Th))(n m:Int):Except Bool Int:=if n=0 then .ok 0 else (ben cs n m).map Nd.c
theorem ze6 {ts:List Th}(h:ts.length≠5):isN (.tup ts)=false:=by
 match ts,h with
 | [],_=>rfl
 | [_],_=>rfl
 | [_,_],_=>rfl
 | [_,_,_],_=>rfl
 | [_,_,_,_],_=>rfl
 | [_,_,_,_,_],h=>exact absurd rfl h
 | _::_::_::_::_::_::_,_=>rfl
theorem zlR {nd:Nd}(h:NodeOk nd.k nd.w nd.l nd.r nd.c):isN nd.th=true:=by
 show (!decide (nd.k=.non) && (!decide (nd.w=.non) && (decide (0≤nd.l) && (decide (0≤nd.r) && (decide (1≤nd.c) && decide (nd.c≤300))))))=true
 rw [decide_eq_false h.k0,decide_eq_false h.w0,decide_eq_true h.l0,decide_eq_true h.r0,decide_eq_true h.c1,decide_eq_true h.c2]
 rfl
theorem zjP {nd:Nd}(h:isN nd.th=true):NodeOk nd.k nd.w nd.l nd.r nd.c:=by
 have h':(!decide (nd.k=.non) && (!decide (nd.w=.non) && (decide (0≤nd.l) && (decide (0≤nd.r) && (decide (1≤nd.c) && decide (nd.c≤300))))))=true:=h
 simp only [Bool.and_eq_true,Bool.not_eq_true',decide_eq_false_iff_not,decide_eq_true_eq] at h'
 obtain ⟨a,b,c,d,e,f⟩:=h'
 exact ⟨a,b,c,d,e,f⟩
theorem zkO {nd:Nd}(h:isN nd.th=true):ndOf nd.th=some nd:=by
 show (if isN nd.th=true then some nd else none)=some nd
 rw [if_pos h]
theorem zgZ {t:Th}(h:isR t=true):∃i,t=.int i:=by
 cases t with
 | int i=>exact ⟨i,rfl⟩
 | non=>cases h
 | str x=>cases h
 | tup ts=>cases h
theorem zlg {t:Th}(h:isN t=true):∃nd:Nd,t=nd.th:=by
 cases t with
 | non=>cases h
 | int i=>cases h
 | str x=>cases h
 | tup ts=>
  by_cases hl:ts.length=5
  ·match ts,hl,h with
   | [k,w,l,r,c],_,h=>
    have h':(!decide (k=.non) && (!decide (w=.non) && (isR l && (isR r && zeL c))))=true:=h
    simp only [Bool.and_eq_true] at h'
    obtain ⟨_,_,h3,h4,h5⟩:=h'
    obtain ⟨l',rfl⟩:=zgZ h3
    obtain ⟨r',rfl⟩:=zgZ h4
    cases c with
    | int c'=>exact ⟨⟨k,w,l',r',c'⟩,rfl⟩
    | non=>cases h5
    | str x=>cases h5
    | tup ts=>cases h5
  ·rw [ze6 hl] at h;cases h
theorem zeP {t:Th}{nd:Nd}(h:ndOf t=some nd):t=nd.th∧isN t=true:=by
 unfold ndOf at h
 split at h
 ·rename_i k w l r c
  split at h
  ·rename_i z
   cases h
   exact ⟨rfl,z⟩
  ·cases h
 ·cases h
theorem zc4 {cs:List (Int ×Th)}{n m:Int}{nd:Nd}(e:zL cs n=some nd.th)(h:NodeOk nd.k nd.w nd.l nd.r nd.c)(hm:nd.c < m):ben cs n m=.ok nd:=by
 unfold ben
 rw [e]
 show (match ndOf nd.th with | none=>_ | some nd=>_)=_
 rw [zkO (zlR h)]
 show (if nd.c < m then _ else _)=_
 rw [if_pos hm]
theorem zgB {cs:List (Int ×Th)}{n m:Int}(e:zL cs n=none):ben cs n m=.error false:=by
 unfold ben
 rw [e]
def BadB (m:Int)(t:Th):Prop:=∀nd:Nd,t=nd.th→isN t=true→m≤nd.c
theorem zcO {cs:List (Int ×Th)}{n m:Int}{t:Th}(e:zL cs n=some t)(h:BadB m t):ben cs n m=.error true:=by
 unfold ben
 rw [e]
 show (match ndOf t with | none=>_ | some nd=>_)=_
 cases z:ndOf t with
 | none=>rfl
 | some nd=>
  obtain ⟨a,b⟩:=zeP z
  have:=h nd a b
  show (if nd.c < m then _ else _)=_
  rw [if_neg (by omega)]
theorem zkQ {cs:List (Int ×Th)}{n m:Int}{nd:Nd}(h:ben cs n m=.ok nd):zL cs n=some nd.th∧NodeOk nd.k nd.w nd.l nd.r nd.c∧nd.c < m:=by
 unfold ben at h
 cases z:zL cs n with
 | none=>rw [z] at h;cases h
 | some t=>
  rw [z] at h
  cases y:ndOf t with
  | none=>
   have h':(match ndOf t with | none=>Except.error true | some nd=>if nd.c < m then .ok nd else .error true)=Except.ok nd:=h
   rw [y] at h'
   cases h'
  | some nd'=>
   have h':(match ndOf t with | none=>Except.error true | some nd=>if nd.c < m then .ok nd else .error true)=Except.ok nd:=h
   rw [y] at h'
   have h2:(if nd'.c < m then Except.ok nd' else .error true)=Except.ok nd:=h'
   by_cases x:nd'.c < m
   ·rw [if_pos x] at h2
    cases h2
    obtain ⟨a,b⟩:=zeP y
    subst a
    exact ⟨rfl,zjP b,x⟩
   ·rw [if_neg x] at h2;cases h2
def exA (CN CB:Addr)(b:Bool):Addr:=if b=true then CB else CN
def zex:Sp:=fun vs H Q _=>∃(t:Th) (v:V),vs=[v]∧Rep H t v∧Q (.bl (isW t)) H
def zhb:Sp:=fun vs H Q _=>∃(t:Th) (v:V),vs=[v]∧Rep H t v∧Q (.bl (isR t)) H
def zla:Sp:=fun vs H Q _=>∃(t:Th) (v:V),vs=[v]∧Rep H t v∧Q (.bl (isN t)) H
def zgj (C CN:Addr):Sp:=fun vs H Q E=>∃(a d:Addr) (cs:List (Int ×Th)) (n:Int),vs=[.ref a,.int n]∧VS H C a d cs∧(∀t v,zL cs n=some t→Rep H t v→Q v H)∧(zL cs n=none→E (.ref CN) none H)
def zcZ (C CN CB:Addr):Sp:=fun vs H Q E=>∃(a d:Addr) (cs:List (Int ×Th)) (n m:Int),vs=[.ref a,.int n,.int m]∧VS H C a d cs∧(∀nd v,ben cs n m=.ok nd→Rep H nd.th v→Q v H)∧(∀b,ben cs n m=.error b→E (.ref (exA CN CB b)) none H)
def zk4 (C CN CB:Addr):Sp:=fun vs H Q E=>∃(a d:Addr) (cs:List (Int ×Th)) (n:Int),vs=[.ref a,.int n]∧VS H C a d cs∧(∀nd v,ben cs n 301=.ok nd→Rep H nd.th v→Q v H)∧(∀b,ben cs n 301=.error b→E (.ref (exA CN CB b)) none H)
def zcF (C CN CB:Addr):Sp:=fun vs H Q E=>∃(a d:Addr) (cs:List (Int ×Th)) (n m:Int),vs=[.ref a,.int n,.int m]∧VS H C a d cs∧(∀c,zai cs n m=.ok c→Q (.int c) H)∧(∀b,zai cs n m=.error b→E (.ref (exA CN CB b)) none H)
def zdY (C CN CB:Addr):Sp:=fun vs H Q E=>∃(a d:Addr) (cs:List (Int ×Th)) (n:Int),vs=[.ref a,.int n]∧VS H C a d cs∧(∀c,zai cs n 301=.ok c→Q (.int c) H)∧(∀b,zai cs n 301=.error b→E (.ref (exA CN CB b)) none H)
def zjJ (C CN CB:Addr):Sp:=fun vs H Q E=>∃(a d:Addr) (cs:List (Int ×Th)) (nd:Nd) (v:V),vs=[.ref a,v]∧VS H C a d cs∧Rep H nd.th v∧
 (∀b,zai cs nd.l nd.c=.error b→E (.ref (exA CN CB b)) none H)∧(∀x b,zai cs nd.l nd.c=.ok x→zai cs nd.r nd.c=.error b→E (.ref (exA CN CB b)) none H)∧
 ∀x y,zai cs nd.l nd.c=.ok x→zai cs nd.r nd.c=.ok y→(x+y+1≠nd.c→E (.ref CB) none H)∧(x+y+1=nd.c→Q .non H)
section
variable {P:Program}{w:World}{K:PySem.W.Frag}{mg:Str→Option Value}{base:Heap}{C CC CN CB:Addr}{x:Str}{t1 t2 t3 t4 t5 t6 t7:Tok}
theorem zie (M:Mt P w K mg base (CX1 P w) C "thing" 1 ["self","number"] (zfK C CN)):Mt P w K mg base (CX1 P w) C "thing" 1 ["self","number"] (zgj C CN):=Mt.imp M fun vs H Q E h=>by
 obtain ⟨a,d,cs,n,rfl,vs,q,qe⟩:=h
 obtain ⟨kv,vo,dr⟩:=vs.vo
 refine ⟨a,d,kv,n,rfl,vo,fun v ev=>?_,fun ev=>qe ?_⟩
 ·obtain ⟨t,e1,rv⟩:=dr.back ev
  exact q t v e1 rv
 ·cases z:zL cs n with
  | none=>rfl
  | some t=>
   obtain ⟨y,ey,_⟩:=dr.some z
   rw [ev] at ey;cases ey
theorem zif (D:Dfn K mg "is_whole" zdA ["value"]) (m_isinstance:mg "isinstance" =none) (m_int:mg "int" =none) (m_bool:mg "bool" =none):Fn P w K mg base "is_whole" 1 ["value"] zex:=by
 refine D.ok (k:=0) zgN (fun vs H Q E h=>?_) (fun f cdv A outer s H vs Q E hr h=>?_)
 ·obtain ⟨t,v,rfl,_⟩:=h;rfl
 obtain ⟨t,v,rfl,rt,q⟩:=h
 refine ⟨_,(ze (zl (zbl (zF (zae) (by rfl) m_isinstance (by rfl) (za (pv 0) (za (zaD (v:=.ty "int") (by rfl) m_int (by rfl) rfl) zc))) (zba (zgq (zF (zae) (by rfl) m_isinstance (by rfl) (za (pv 0) (za (zaD (v:=.ty "bool") (by rfl) m_bool (by rfl) rfl) zc)))))))),?_⟩
 cases rt with
 | non=>exact ⟨_,rfl,_,_,_,_,rfl,.non,rfl,_,rfl,ifF rfl q⟩
 | int i=>
  refine ⟨_,rfl,_,_,_,_,rfl,.int i,rfl,_,rfl,ifT rfl ?_⟩
  exact ⟨_,rfl,_,_,_,_,rfl,.int i,rfl,_,rfl,q⟩
 | str x=>exact ⟨_,rfl,_,_,_,_,rfl,.str x,rfl,_,rfl,ifF rfl q⟩
 | tup e l h=>exact ⟨_,rfl,_,_,_,_,rfl,.tup e,rfl,_,rfl,ifF rfl q⟩
theorem zjm (D:Dfn K mg "is_root" zd7 ["thing"]) (F_is_whole:Fn P w K mg base "is_whole" 1 ["value"] zex):Fn P w K mg base "is_root" 2 ["thing"] zhb:=by
 refine D.ok (k:=1) zhR (fun vs H Q E h=>?_) (fun f cdv A outer s H vs Q E hr h=>?_)
 ·obtain ⟨t,v,rfl,_⟩:=h;rfl
 obtain ⟨t,v,rfl,rt,q⟩:=h
 refine ⟨_,(ze (zl (zbl (zC F_is_whole hr (by omega) (by rfl) (za (pv 0) zc)) (zba (zQ ziS (pv 0) zb (zt _)))))),?_⟩
 refine ⟨_,rfl,t,v,rfl,rt,_,rfl,?_⟩
 cases rt with
 | non=>exact ifF rfl q
 | int i=>exact ifT rfl ⟨_,rfl,_,_,rfl,rfl,q⟩
 | str x=>exact ifF rfl q
 | tup e l h=>exact ifF rfl q
theorem zhB (D:Dfn K mg "is_node" zeA ["thing"]) (F_is_root:Fn P w K mg base "is_root" 2 ["thing"] zhb) (F_is_whole:Fn P w K mg base "is_whole" 1 ["value"] zex) (m_isinstance:mg "isinstance" =none) (m_tuple:mg "tuple" =none) (m_len:mg "len" =none)
  (g_KEY:mg "KEY" =some (.int 0 t1)) (g_WORTH:mg "WORTH" =some (.int 1 t2)) (g_LEFT:mg "LEFT" =some (.int 2 t3)) (g_RIGHT:mg "RIGHT" =some (.int 3 t4)) (g_COUNT:mg "COUNT" =some (.int 4 t5)) (g_MOST_NODES:mg "MOST_NODES" =some (.int 300 t6)):
  Fn P w K mg base "is_node" 3 ["thing"] zla:=by
 refine D.ok (k:=2) zhS (fun vs H Q E h=>?_) (fun f cdv A outer s H vs Q E hr h=>?_)
 ·obtain ⟨t,v,rfl,_⟩:=h;rfl
 obtain ⟨t,v,rfl,rt,q⟩:=h
 refine ⟨_,(zd (zE (PW.pt (zbS (zbs (zS (zF (zae) (by rfl) m_isinstance (by rfl) (za (pv 0) (za (zaD (v:=.ty "tuple") (by rfl) m_tuple (by rfl) rfl) zc))))) (zbx (zw zbu (zF (zI) (by rfl) m_len (by rfl) (za (pv 0) zc)) zb (zt _)))))
 (ze (zl zaM))
 zu)
 (zd (zE (PW.pt (zbS (zw za3 (zm zA (pv 0) (zx (v:=.int 0) (by rfl) g_KEY ⟨_,rfl⟩) (fun _ _=>rfl)) zP (zt _)) (zbx (zw za3 (zm zA (pv 0) (zx (v:=.int 1) (by rfl) g_WORTH ⟨_,rfl⟩) (fun _ _=>rfl)) zP (zt _)))))
 (ze (zl zaM))
 zu)
 (zd (zE (PW.pt (zbS (zbs (zS (zC F_is_root hr (by omega) (by rfl) (za (zm zA (pv 0) (zx (v:=.int 2) (by rfl) g_LEFT ⟨_,rfl⟩) (fun _ _=>rfl)) zc)))) (zbx (zbs (zS (zC F_is_root hr (by omega) (by rfl) (za (zm zA (pv 0) (zx (v:=.int 3) (by rfl) g_RIGHT ⟨_,rfl⟩) (fun _ _=>rfl)) zc)))))))
 (ze (zl zaM))
 zu)
 (ze (zl (zbl (zC F_is_whole hr (by omega) (by rfl) (za (zm zA (pv 0) (zx (v:=.int 4) (by rfl) g_COUNT ⟨_,rfl⟩) (fun _ _=>rfl)) zc)) (zba (ziN zk1 zk1 zb (zm zA (pv 0) (zx (v:=.int 4) (by rfl) g_COUNT ⟨_,rfl⟩) (fun _ _=>rfl)) (zx (v:=.int 300) (by rfl) g_MOST_NODES ⟨_,rfl⟩))))))))),?_⟩
 cases rt with
 | non=>exact ⟨_,rfl,_,_,_,_,rfl,.non,rfl,_,rfl,ifT rfl (ifT rfl q)⟩
 | int i=>exact ⟨_,rfl,_,_,_,_,rfl,.int i,rfl,_,rfl,ifT rfl (ifT rfl q)⟩
 | str x=>exact ⟨_,rfl,_,_,_,_,rfl,.str x,rfl,_,rfl,ifT rfl (ifT rfl q)⟩
 | @tup a xs ts ea l0 h0=>
  refine ⟨_,rfl,_,_,_,_,rfl,.tup ea,rfl,_,rfl,ifF rfl ?_⟩
  refine ⟨_,rfl,a,_,rfl,.inr (SqT.of ea),rfl,_,rfl,?_⟩
  rw [zR]
  by_cases hl:ts.length=5
  ·have rep:Rep H (.tup ts) (.ref a):=.tup ea l0 h0
   match ts,hl,rep,q with
   | [k,wo,l,r,c],_,rep,q=>
   obtain ⟨a',xs',e,ea',r1⟩:=rep.list
   cases e
   rw [ea] at ea'
   cases ea'
   cases r1 with
   | cons rk r2=>
   cases r2 with
   | cons rw' r3=>
   cases r3 with
   | cons rl r4=>
   cases r4 with
   | cons rr r5=>
   cases r5 with
   | cons rc r6=>
   cases r6 with
   | nil=>
   refine ifF (by rfl) ?_
   rename_i vk vw vl vr vc
   have et:SqT K H a [vk,vw,vl,vr,vc]:=SqT.of ea
   have q':Q (.bl (!decide (k=.non) && (!decide (wo=.non) && (isR l && (isR r && zeL c))))) H:=q
   refine ⟨_,rfl,a,_,_,_,rfl,rfl,et,rfl,rfl,_,rfl,?_⟩
   rw [zca rk]
   cases z1:decide (k=.non) with
   | true=>rw [z1] at q';exact ifT rfl (ifT rfl q')
   | false=>
   rw [z1] at q'
   refine ifF rfl ?_
   refine ⟨_,rfl,a,_,_,_,rfl,rfl,et,rfl,rfl,_,rfl,?_⟩
   rw [zca rw']
   cases z2:decide (wo=.non) with
   | true=>rw [z2] at q';exact ifT rfl q'
   | false=>
   rw [z2] at q'
   refine ifF rfl ?_
   refine ⟨_,rfl,a,_,_,_,rfl,rfl,et,rfl,l,_,rfl,rl,_,rfl,?_⟩
   cases z3:isR l with
   | false=>rw [z3] at q';exact ifT rfl (ifT rfl q')
   | true=>
   rw [z3] at q'
   refine ifF rfl ?_
   refine ⟨_,rfl,a,_,_,_,rfl,rfl,et,rfl,r,_,rfl,rr,_,rfl,?_⟩
   cases z4:isR r with
   | false=>rw [z4] at q';exact ifT rfl q'
   | true=>
   rw [z4] at q'
   refine ifF rfl ?_
   refine ⟨_,rfl,a,_,_,_,rfl,rfl,et,rfl,c,_,rfl,rc,_,rfl,?_⟩
   cases rc with
   | non=>exact ifF rfl q'
   | str x=>exact ifF rfl q'
   | tup e l h=>exact ifF rfl q'
   | int i=>
    refine ifT rfl ?_
    refine ⟨_,rfl,a,_,_,_,rfl,rfl,et,rfl,_,_,rfl,rfl,_,rfl,?_⟩
    have q2:Q (.bl (decide (1≤i) && decide (i≤300))) H:=q'
    cases z5:decide (1≤i) with
    | false=>rw [z5] at q2;exact ifF rfl q2
    | true=>rw [z5] at q2;exact ifT rfl ⟨_,_,rfl,rfl,q2⟩
  ·rw [ze6 hl] at q
   refine ifT (by rw [l0];rw [decide_eq_false (show¬((ts.length:Nat):Int)=5 by omega)];rfl) q
end
end Pv
namespace Pv
open PySem L2
theorem zci {t:Th}{m:Int}(h:isN t=false):BadB m t:=fun nd _ z=>by rw [h] at z;cases z
theorem zbV {cs:List (Int ×Th)}{n m:Int}(h:n≠0):zai cs n m=(ben cs n m).map Nd.c:=if_neg h
section
variable {P:Program}{w:World}{K:PySem.W.Frag}{mg:Str→Option Value}{base:Heap}{C CC CN CB:Addr}{x:Str}{t1 t2 t3 t4 t5 t6 t7:Tok}
theorem zkA (D:Dfn K mg "node_beneath" zbG ["vault","root","count"]) (M_thing:Mt P w K mg base (CX1 P w) C "thing" 1 ["self","number"] (zgj C CN)) (c_K:Cls K C) (F_is_node:Fn P w K mg base "is_node" 3 ["thing"] zla) (X_BadThing:XP K mg "BadThing" CB) (g_COUNT:mg "COUNT" =some (.int 4 t5)):
  FnX P w K mg base "node_beneath" 4 ["vault","root","count"] (zcZ C CN CB):=by
 refine D.okX (k:=3) zcD (fun vs H Q E h=>?_) (fun f cdv A outer s H vs Q E hr h=>?_)
 ·obtain ⟨a,d,cs,n,m,rfl,_⟩:=h;rfl
 obtain ⟨a,d,cs,n,m,rfl,vs,q,qe⟩:=h
 obtain ⟨kv,vo,_⟩:=vs.vo
 obtain ⟨⟨dx,fs,eo,fl⟩,ed⟩:=id vo
 refine ⟨_,(zd (zj (i:=3) zcD.nd rfl (Or.inl rfl) (zbR (pv 0) c_K M_thing hr (by omega) zD (za (pv 1) zc)))
 (zd (zE (PW.pt (zbS (zbs (zS (zC F_is_node hr (by omega) (by rfl) (za (pv 3) zc)))) (zbx (zw ziS (zm zA (pv 3) (zx (v:=.int 4) (by rfl) g_COUNT ⟨_,rfl⟩) (fun _ _=>rfl)) (pv 2) (zt _)))))
 (ze (zdb zdg rfl (zjE X_BadThing (by rfl) (za zah zc))))
 zu)
 (ze (zl (pv 3))))),?_⟩
 refine ⟨_,rfl,a,dx,_,rfl,eo,fl.n3,_,rfl,a,d,cs,n,rfl,vs,fun t v lt rep=>?_,fun ln=>qe false (zgB ln)⟩
 refine ⟨_,rfl,t,v,rfl,rep,_,rfl,?_⟩
 cases z:isN t with
 | false=>
  refine ifT rfl (ifT rfl ⟨szl (show 1≤1000 by decide),fun e he=>⟨e,CB,none,rfl,zf,X_BadThing.cl.q,?_⟩⟩)
  rw [zd2 he]
  exact qe true (zcO lt (zci z))
 | true=>
  obtain ⟨nd,rfl⟩:=zlg z
  obtain ⟨p,vk,vw,rfl,ea,rk,rw'⟩:=zK rep
  have et:SqT K H p [vk,vw,.int nd.l,.int nd.r,.int nd.c]:=SqT.of ea
  refine ifF rfl ⟨_,rfl,p,_,_,_,rfl,rfl,et,rfl,_,rfl,_,_,rfl,rfl,_,rfl,?_⟩
  by_cases hc:nd.c < m
  ·refine ifF (decide_eq_false (Int.not_le.mpr hc)) ⟨_,rfl,q nd _ (zc4 lt (zjP z) hc) rep⟩
  ·refine ifT (decide_eq_true (Int.not_lt.mp hc)) ⟨szl (show 1≤1000 by decide),fun e he=>⟨e,CB,none,rfl,zf,X_BadThing.cl.q,?_⟩⟩
   rw [zd2 he]
   refine qe true (zcO lt fun nd' e' _=>?_)
   cases nd with | mk a1 a2 a3 a4 a5=>
   cases nd' with | mk b1 b2 b3 b4 b5=>
   cases e'
   exact Int.not_lt.mp hc
theorem zlI (D:Dfn K mg "node_at" zd4 ["vault","root"]) (F_node_beneath:FnX P w K mg base "node_beneath" 4 ["vault","root","count"] (zcZ C CN CB)) (g_BENEATH_NONE:mg "BENEATH_NONE" =some (.int 301 t7)):FnX P w K mg base "node_at" 5 ["vault","root"] (zk4 C CN CB):=by
 refine D.okX (k:=4) zhL (fun vs H Q E h=>?_) (fun f cdv A outer s H vs Q E hr h=>?_)
 ·obtain ⟨a,d,cs,n,rfl,_⟩:=h;rfl
 obtain ⟨a,d,cs,n,rfl,vs,q,qe⟩:=h
 refine ⟨_,(ze (zl (zH F_node_beneath hr (by omega) (by rfl) zD (za (pv 0) (za (pv 1) (za (zx (v:=.int 301) (by rfl) g_BENEATH_NONE ⟨_,rfl⟩) zc)))))),?_⟩
 exact ⟨_,rfl,_,rfl,a,d,cs,n,301,rfl,vs,q,qe⟩
theorem zhC (D:Dfn K mg "size_beneath" zbF ["vault","root","count"]) (F_node_beneath:FnX P w K mg base "node_beneath" 4 ["vault","root","count"] (zcZ C CN CB)) (g_COUNT:mg "COUNT" =some (.int 4 t5)):
  FnX P w K mg base "size_beneath" 5 ["vault","root","count"] (zcF C CN CB):=by
 refine D.okX (k:=4) zen (fun vs H Q E h=>?_) (fun f cdv A outer s H vs Q E hr h=>?_)
 ·obtain ⟨a,d,cs,n,m,rfl,_⟩:=h;rfl
 obtain ⟨a,d,cs,n,m,rfl,vs,q,qe⟩:=h
 refine ⟨_,(zd (zE (zw zac (pv 1) zb (zt _))
 (ze (zl zb))
 zu)
 (ze (zl (zm zA (zH F_node_beneath hr (by omega) (by rfl) zD (za (pv 0) (za (pv 1) (za (pv 2) zc)))) (zx (v:=.int 4) (by rfl) g_COUNT ⟨_,rfl⟩) (fun _ _=>rfl))))),?_⟩
 refine ⟨_,rfl,rfl,_,rfl,?_⟩
 rw [zR]
 by_cases h0:n=0
 ·exact ifT (decide_eq_true h0) (q 0 (if_pos h0))
 ·rw [zbV h0] at q qe
  refine ifF (decide_eq_false h0) ?_
  refine ⟨_,rfl,_,rfl,_,rfl,a,d,cs,n,m,rfl,vs,fun nd v e rep=>?_,fun b e=>qe b (by rw [e];rfl)⟩
  obtain ⟨p,vk,vw,rfl,ea,rk,rw'⟩:=zK rep
  exact ⟨p,_,_,_,rfl,rfl,SqT.of ea,rfl,q nd.c (by rw [e];rfl)⟩
theorem zjQ (D:Dfn K mg "size" ssize ["vault","root"]) (F_size_beneath:FnX P w K mg base "size_beneath" 5 ["vault","root","count"] (zcF C CN CB)) (g_BENEATH_NONE:mg "BENEATH_NONE" =some (.int 301 t7)):
  FnX P w K mg base "size" 6 ["vault","root"] (zdY C CN CB):=by
 refine D.okX (k:=5) zlE (fun vs H Q E h=>?_) (fun f cdv A outer s H vs Q E hr h=>?_)
 ·obtain ⟨a,d,cs,n,rfl,_⟩:=h;rfl
 obtain ⟨a,d,cs,n,rfl,vs,q,qe⟩:=h
 refine ⟨_,(ze (zl (zH F_size_beneath hr (by omega) (by rfl) zD (za (pv 0) (za (pv 1) (za (zx (v:=.int 301) (by rfl) g_BENEATH_NONE ⟨_,rfl⟩) zc)))))),?_⟩
 exact ⟨_,rfl,_,rfl,a,d,cs,n,301,rfl,vs,q,qe⟩
theorem zj9 (D:Dfn K mg "refuse_sum" zcI ["vault","node"]) (F_size_beneath:FnX P w K mg base "size_beneath" 5 ["vault","root","count"] (zcF C CN CB)) (X_BadThing:XP K mg "BadThing" CB) (g_LEFT:mg "LEFT" =some (.int 2 t3)) (g_RIGHT:mg "RIGHT" =some (.int 3 t4)) (g_COUNT:mg "COUNT" =some (.int 4 t5)):FnX P w K mg base "refuse_sum" 6 ["vault","node"] (zjJ C CN CB):=by
 refine D.okX (k:=5) zbZ (fun vs H Q E h=>?_) (fun f cdv A outer s H vs Q E hr h=>?_)
 ·obtain ⟨a,d,cs,nd,v,rfl,_⟩:=h;rfl
 obtain ⟨a,d,cs,nd,v,rfl,vs,rn,q1,q2,q3⟩:=h
 obtain ⟨p,vk,vw,rfl,ea,rk,rw'⟩:=zK rn
 have et:SqT K H p [vk,vw,.int nd.l,.int nd.r,.int nd.c]:=SqT.of ea
 refine ⟨_,(zd (zj (i:=2) zbZ.nd rfl (Or.inl rfl) (zH F_size_beneath hr (by omega) (by rfl) zD (za (pv 0) (za (zm zA (pv 1) (zx (v:=.int 2) (by rfl) g_LEFT ⟨_,rfl⟩) (fun _ _=>rfl)) (za (zm zA (pv 1) (zx (v:=.int 4) (by rfl) g_COUNT ⟨_,rfl⟩) (fun _ _=>rfl)) zc)))))
 (zd (zj (i:=3) zbZ.nd rfl (Or.inl rfl) (zH F_size_beneath hr (by omega) (by rfl) zD (za (pv 0) (za (zm zA (pv 1) (zx (v:=.int 3) (by rfl) g_RIGHT ⟨_,rfl⟩) (fun _ _=>rfl)) (za (zm zA (pv 1) (zx (v:=.int 4) (by rfl) g_COUNT ⟨_,rfl⟩) (fun _ _=>rfl)) zc)))))
 (ze (zE (zw zbu (zo zO (zo zO (pv 2) (pv 3)) zb) (zm zA (pv 1) (zx (v:=.int 4) (by rfl) g_COUNT ⟨_,rfl⟩) (fun _ _=>rfl)) (zt _))
 (ze (zdb zdg rfl (zjE X_BadThing (by rfl) (za zah zc))))
 zu)))),?_⟩
 refine ⟨_,rfl,_,rfl,p,_,_,_,rfl,rfl,et,rfl,_,rfl,p,_,_,_,rfl,rfl,et,rfl,a,d,cs,nd.l,nd.c,rfl,vs,fun x ex=>?_,q1⟩
 refine ⟨_,rfl,_,rfl,p,_,_,_,rfl,rfl,et,rfl,_,rfl,p,_,_,_,rfl,rfl,et,rfl,a,d,cs,nd.r,nd.c,rfl,vs,fun y ey=>?_,fun b=>q2 x b ex⟩
 obtain ⟨q4,q5⟩:=q3 x y ex ey
 refine ⟨_,rfl,_,rfl,_,_,rfl,rfl,_,_,rfl,rfl,_,rfl,p,_,_,_,rfl,rfl,et,rfl,rfl,_,rfl,?_⟩
 rw [zR]
 by_cases hs:x+y+1=nd.c
 ·exact ifF (by rw [decide_eq_true hs];rfl) (q5 hs)
 ·refine ifT (by rw [decide_eq_false hs];rfl) ⟨szl (show 1≤1000 by decide),fun e he=>⟨e,CB,none,rfl,zf,X_BadThing.cl.q,?_⟩⟩
  rw [zd2 he]
  exact q4 hs
end
end Pv
namespace Pv
open PySem L2
inductive Way (cs:List (Int ×Th)) (x:Th):Int→Int→List Nd→Option Bool→Prop
 | nil {m:Int}:Way cs x 0 m [] none
 | bad {n m:Int} {b:Bool}:n≠0→ben cs n m=.error b→Way cs x n m [] (some b)
 | own {n m:Int} {nd:Nd}:n≠0→ben cs n m=.ok nd→KeyT nd.k→nd.k=x→Way cs x n m [nd] none
 | step {n m:Int} {nd:Nd} {ns:List Nd} {res:Option Bool}:n≠0→ben cs n m=.ok nd→KeyT nd.k→nd.k≠x→Way cs x (if zh nd.k x=true then nd.r else nd.l) nd.c ns res→Way cs x n m (nd::ns) res
theorem Way.inv {cs:List (Int ×Th)}{x:Th}{n m:Int}{ns:List Nd}{res:Option Bool}(h:Way cs x n m ns res):(n=0∧ns=[]∧res=none)∨(n≠0∧∃b,ben cs n m=.error b∧res=some b)∨
  (n≠0∧∃nd,ben cs n m=.ok nd∧KeyT nd.k∧((nd.k=x∧ns=[nd]∧res=none)∨(nd.k≠x∧∃ns',ns=nd::ns'∧Way cs x (if zh nd.k x=true then nd.r else nd.l) nd.c ns' res))):=by
 cases h with
 | nil=>exact .inl ⟨rfl,rfl,rfl⟩
 | bad h e=>exact .inr (.inl ⟨h,_,e,rfl⟩)
 | own h e k z=>exact .inr (.inr ⟨h,_,e,k,.inl ⟨z,rfl,rfl⟩⟩)
 | step h e k z w=>exact .inr (.inr ⟨h,_,e,k,.inr ⟨z,_,rfl,w⟩⟩)
theorem Way.keys {cs:List (Int ×Th)}{x:Th}{n m:Int}{ns:List Nd}{res:Option Bool}(h:Way cs x n m ns res):∀nd∈ns,KeyT nd.k:=by
 induction h with
 | nil=>intro nd h;cases h
 | bad=>intro nd h;cases h
 | own _ _ k _=>intro nd h;rw [List.mem_singleton.mp h];exact k
 | step _ _ k _ _ ih=>
  intro nd h
  rcases List.mem_cons.mp h with rfl | h
  ·exact k
  ·exact ih nd h
theorem zdk {xs:List V}{v:V}:atI (xs++ [v]) (-1)=some v:=by
 unfold atI ixN
 rw [if_neg (by decide),if_pos (by simp only [List.length_append,List.length_singleton];omega)]
 show (xs++ [v])[((-1:Int)+(((xs++ [v]).length:Nat):Int)).toNat]? =_
 rw [show ((-1:Int)+(((xs++ [v]).length:Nat):Int)).toNat=xs.length by simp only [List.length_append,List.length_singleton];omega,List.getElem?_append_right (Nat.le_refl _),Nat.sub_self]
 rfl
def zf9 (ns:List Nd)(x:Th):Bool:=match ns.getLast? with
 | none=>false
 | some nd=>eqT nd.k x
def zdt (C CN CB:Addr):Sp:=fun vs H Q E=>∃(a d:Addr) (cs:List (Int ×Th)) (n:Int) (x:Th) (vx:V) (ns:List Nd) (res:Option Bool),vs=[.ref a,.int n,vx]∧VS H C a d cs∧Way cs x n 301 ns res∧ns.length≤300∧Rep H x vx∧KeyT x∧
 (res=none→∀pw ws H',Same H H'→H pw=none→H' pw=some (.lst ws)→RepL H' (ns.map Nd.th) ws→Q (.ref pw) H')∧(∀b H',res=some b→Same H H'→E (.ref (exA CN CB b)) none H')
def zfq (K:PySem.W.Frag):Sp:=fun vs H Q _=>∃(pw:Addr) (ws:List V) (ns:List Nd) (x:Th) (vx:V),vs=[.ref pw,vx]∧SqL K H pw ws∧RepL H (ns.map Nd.th) ws∧(∀nd∈ns,KeyT nd.k)∧Rep H x vx∧Q (.bl (zf9 ns x)) H
def zcs (C CN CB:Addr):Sp:=fun vs H Q E=>∃(a d:Addr) (cs:List (Int ×Th)) (n:Int) (x:Th) (vx:V) (ns:List Nd) (res:Option Bool),vs=[.ref a,.int n,vx]∧VS H C a d cs∧Way cs x n 301 ns res∧ns.length≤300∧Rep H x vx∧KeyT x∧
 (res=none→∃pre nd,ns=pre++ [nd]∧nd.k=x∧∀v H',Same H H'→Rep H' nd.w v→Q v H')∧(∀b H',res=some b→Same H H'→E (.ref (exA CN CB b)) none H')
def ziZ (C CN CB:Addr):Sp:=fun vs H Q E=>∃(a d:Addr) (cs:List (Int ×Th)) (n:Int) (x:Th) (vx vw:V) (ns:List Nd) (b:Bool),vs=[.ref a,.int n,vx,vw]∧VS H C a d cs∧Way cs x n 301 ns (some b)∧ns.length≤300∧Rep H x vx∧KeyT x∧∀H',Same H H'→E (.ref (exA CN CB b)) none H'
def zhy (C CN CB:Addr):Sp:=fun vs H Q E=>∃(a d:Addr) (cs:List (Int ×Th)) (n:Int) (x:Th) (vx:V) (ns:List Nd) (b:Bool),vs=[.ref a,.int n,vx]∧VS H C a d cs∧Way cs x n 301 ns (some b)∧ns.length≤300∧Rep H x vx∧KeyT x∧∀H',Same H H'→E (.ref (exA CN CB b)) none H'
section
variable {P:Program}{w:World}{K:PySem.W.Frag}{mg:Str→Option Value}{base:Heap}{C CC CN CB:Addr}{x:Str}{t1 t2 t3 t4 t5 t6 t7:Tok}
theorem zkF (D:Dfn K mg "way_to" zfv ["vault","root","key"]) (F_node_beneath:FnX P w K mg base "node_beneath" 4 ["vault","root","count"] (zcZ C CN CB)) (F_side_of:Fn P w K mg base "side_of" 21 ["node","key"] zjp) (g_KEY:mg "KEY" =some (.int 0 t1)) (g_COUNT:mg "COUNT" =some (.int 4 t5)) (g_BENEATH_NONE:mg "BENEATH_NONE" =some (.int 301 t7)):
  FnX P w K mg base "way_to" 22 ["vault","root","key"] (zdt C CN CB):=by
 refine D.okX (k:=21) zbO (fun vs H Q E h=>?_) (fun f cdv A outer s H vs Q E hr h=>?_)
 ·obtain ⟨a,d,cs,n,x,vx,ns,res,rfl,_⟩:=h;rfl
 obtain ⟨a,d,cs,n,x,vx,ns,res,rfl,vs,wy,hns,rx,kx,q,qe⟩:=h
 refine ⟨_,(zd (zj (i:=3) zbO.nd rfl (Or.inl rfl) (zM zc))
 (zd (zj (i:=4) zbO.nd rfl (Or.inl rfl) (zx (v:=.int 301) (by rfl) g_BENEATH_NONE ⟨_,rfl⟩))
 (zd (zdd PassesOwn.leaving (zw zbu (pv 1) zb (zt _))
 (zd (zj (i:=5) zbO.nd rfl (Or.inl rfl) (zH F_node_beneath hr (by omega) (by rfl) zD (za (pv 0) (za (pv 1) (za (pv 4) zc)))))
 (zd (zaC (zcv PySem.F.plainAttrs_list PySem.F.slot_list_append PySem.F.type_list_append zar (pv 3) (za (pv 5) zc)))
 (zd (zE (zw (zdZ hr) (zm zA (pv 5) (zx (v:=.int 0) (by rfl) g_KEY ⟨_,rfl⟩) (fun _ _=>rfl)) (pv 2) (zt _))
 (ze (zl (pv 3)))
 zu)
 (zd (zj (i:=1) zbO.nd rfl (Or.inl rfl) (zm zA (pv 5) (zC F_side_of hr (by omega) (by rfl) (za (pv 5) (za (pv 2) zc))) (fun _ _=>rfl)))
 (ze (zj (i:=4) zbO.nd rfl (Or.inl rfl) (zm zA (pv 5) (zx (v:=.int 4) (by rfl) g_COUNT ⟨_,rfl⟩) (fun _ _=>rfl)))))))))
 (ze (zl (pv 3)))))),?_⟩
 refine ⟨szl (show 0≤1000 by decide),fun pw hpw=>?_⟩
 have s0:=zk (o:=.lst []) (Same.refl H) hpw
 have e0:upd H pw (.lst []) pw=some (.lst []):=zf
 generalize upd H pw (.lst [])=H0 at s0 e0
 refine ⟨fun m σ H'=>∃(n c:Int) (done rest:List Nd) (ws:List V) (k5:Option V),m=rest.length∧Way cs x n c rest res∧ns=done++rest∧σ=[some (.ref a),some (.int n),some vx,some (.ref pw),some (.int c),k5]∧Same H H'∧H' pw=some (.lst ws)∧RepL H' (done.map Nd.th) ws,⟨ns.length,n,301,[],ns,[],_,rfl,wy,rfl,rfl,s0,e0,.nil⟩,?_⟩
 clear wy
 rintro m σ H1 ⟨n,c,done,rest,ws,k5,rfl,wy,ens,rfl,s1,e1,r1⟩
 refine ⟨_,rfl,rfl,_,rfl,?_⟩
 rw [zR]
 have vs1:=vs.same s1
 rcases wy.inv with ⟨hn,er,eres⟩ | ⟨hn,b,hb,eres⟩ | ⟨hn,nd,hb,kk,hnd⟩
 ·refine ifF (by rw [decide_eq_true hn];rfl) ⟨_,rfl,q eres pw ws H1 s1 hpw e1 ?_⟩
  rw [ens,er,List.append_nil];exact r1
 ·refine ifT (by rw [decide_eq_false hn];rfl) ⟨_,fun σ' H' h=>h,?_⟩
  refine ⟨_,rfl,_,rfl,_,rfl,a,d,cs,n,c,rfl,vs1,fun nd v e _=>(by rw [hb] at e;cases e),fun b' e=>?_⟩
  rw [hb] at e;cases e
  exact qe _ H1 eres s1
 ·refine ifT (by rw [decide_eq_false hn];rfl) ⟨_,fun σ' H' h=>h,?_⟩
  refine ⟨_,rfl,_,rfl,_,rfl,a,d,cs,n,c,rfl,vs1,fun nd' v e rn=>?_,fun b' e=>(by rw [hb] at e;cases e)⟩
  rw [hb] at e;cases e
  obtain ⟨p,vk,vw,rfl,ea,rk,rw'⟩:=zK rn
  have hrl:1≤rest.length:=by
   rcases hnd with ⟨_,e,_⟩ | ⟨_,ns',e,_⟩ <;> rw [e] <;> simp
  have hlw:ws.length+rest.length=ns.length:=by rw [r1.len,List.length_map,ens,List.length_append]
  refine ⟨_,rfl,.inl ⟨rfl,_,SqL.of e1⟩,_,rfl,pw,ws,_,rfl,rfl,e1,Nat.lt_of_lt_of_le (show ws.length < 1000 by omega) (szl (Nat.le_refl _)),?_⟩
  have tk1:Tups H1 (upd H1 pw (.lst (ws++ [.ref p]))):=Tups.upd fun xs z=>by rw [e1] at z;cases z
  have e2:upd H1 pw (.lst (ws++ [.ref p])) pw=some (.lst (ws++ [.ref p])):=zf
  have s2:Same H (upd H1 pw (.lst (ws++ [.ref p]))):=zaw s1 hpw
  have r2:RepL (upd H1 pw (.lst (ws++ [.ref p]))) ((done++ [nd]).map Nd.th) (ws++ [.ref p]):=by
   rw [List.map_append]
   exact (r1.keep tk1).snoc (rn.keep tk1)
  have rn2:=rn.keep tk1
  have ea2:=tk1 _ _ ea
  have rk2:=rk.keep tk1
  generalize upd H1 pw (.lst (ws++ [.ref p]))=H2 at tk1 e2 s2 r2 rn2 ea2 rk2
  have et:SqT K H2 p _:=SqT.of ea2
  have kd:=kk.dp
  refine ⟨_,rfl,p,_,_,_,rfl,rfl,et,rfl,_,rfl,nd.k,x,rk2,rx.keep (Same.tups s2),by omega,_,rfl,?_⟩
  rcases hnd with ⟨ek,er,eres⟩ | ⟨ek,ns',er,wy'⟩
  ·refine ifT (by rw [ek,zao]) ⟨_,rfl,q eres pw _ H2 s2 hpw e2 ?_⟩
   rw [ens,er];exact r2
  ·refine ifF (by cases z:eqT nd.k x with | true=>exact absurd ((zaX _ _).mp z) ek | false=>rfl) ?_
   refine ⟨_,rfl,_,rfl,_,rfl,_,_,nd.k,nd.w,x,_,_,_,rfl,rn2,rx.keep (Same.tups s2),kk,fun H3 s3=>?_⟩
   have s03:Same H H3:=fun b o e=>s3 b o (s2 b o e)
   have et3:SqT K H3 p _:=SqT.of (s3 _ _ ea2)
   have ix:atI [vk,vw,.int nd.l,.int nd.r,.int nd.c] (zgk nd.k x)=some (.int (if zh nd.k x=true then nd.r else nd.l)):=by
    unfold zgk
    by_cases y:zh nd.k x=true
    ·rw [if_pos y,if_pos y];rfl
    ·rw [if_neg y,if_neg y];rfl
   refine ⟨p,_,_,_,rfl,rfl,et3,ix,?_⟩
   refine ⟨_,rfl,p,_,_,_,rfl,rfl,et3,rfl,?_⟩
   exact ⟨ns'.length,by rw [er];exact Nat.lt_succ_self _,_,_,done++ [nd],ns',_,_,rfl,wy',by rw [ens,er];simp,rfl,s03,s3 _ _ e2,r2.keep (Same.tups s3)⟩
theorem ziq (D:Dfn K mg "ends_at" zel ["way","key"]) (g_KEY:mg "KEY" =some (.int 0 t1)) (m_len:mg "len" =none):Fn P w K mg base "ends_at" 1 ["way","key"] (zfq K):=by
 refine D.ok (k:=0) zh7 (fun vs H Q E h=>?_) (fun f cdv A outer s H vs Q E hr h=>?_)
 ·obtain ⟨pw,ws,ns,x,vx,rfl,_⟩:=h;rfl
 obtain ⟨pw,ws,ns,x,vx,rfl,hs,rw,kt,rx,q⟩:=h
 have hl:ws.length=ns.length:=by rw [rw.len,List.length_map]
 refine ⟨_,(ze (zl (zbl (zQ ziD (zF (zI) (by rfl) m_len (by rfl) (za (pv 0) zc)) zb (zt _)) (zba (zQ (zdZ hr) (zm zA (zm zB (pv 0) (zdn zb6 zb) (fun _ _=>rfl)) (zx (v:=.int 0) (by rfl) g_KEY ⟨_,rfl⟩) (fun _ _=>rfl)) (pv 1) (zt _)))))),?_⟩
 refine ⟨_,rfl,pw,_,rfl,.inl hs,_,_,rfl,rfl,_,rfl,?_⟩
 rcases List.eq_nil_or_concat ns with e | ⟨pre,nd,e⟩
 ·subst e
  refine ifF (by show decide ((0:Int) < ((ws.length:Nat):Int))=false;rw [hl];rfl) q
 ·rw [List.concat_eq_append] at e
  subst e
  have kd:=(kt nd (by simp)).dp
  rw [List.map_append] at rw
  obtain ⟨us,v,rfl,rus,rn⟩:=rw.unsnoc
  obtain ⟨p,vk,vw,rfl,ea,rk,_⟩:=zK rn
  refine ifT (decide_eq_true (show (0:Int) < (((us++ [V.ref p]).length:Nat):Int) by simp only [List.length_append,List.length_singleton];omega)) ?_
  have q':Q (.bl (eqT nd.k x)) H:=by
   unfold zf9 at q
   rw [List.getLast?_concat] at q
   exact q
  exact ⟨_,rfl,_,rfl,pw,_,_,_,rfl,rfl,hs,zdk,p,_,_,_,rfl,rfl,SqT.of ea,rfl,_,rfl,nd.k,x,rk,rx,by omega,q'⟩
theorem zh1 (D:Dfn K mg "found" zgC ["vault","root","key"]) (F_way_to:FnX P w K mg base "way_to" 22 ["vault","root","key"] (zdt C CN CB)) (F_ends_at:Fn P w K mg base "ends_at" 1 ["way","key"] (zfq K)) (g_WORTH:mg "WORTH" =some (.int 1 t2)):FnX P w K mg base "found" 23 ["vault","root","key"] (zcs C CN CB):=by
 refine D.okX (k:=22) zhs (fun vs H Q E h=>?_) (fun f cdv A outer s H vs Q E hr h=>?_)
 ·obtain ⟨a,d,cs,n,x,vx,ns,res,rfl,_⟩:=h;rfl
 obtain ⟨a,d,cs,n,x,vx,ns,res,rfl,vs,wy,hns,rx,kx,q,qe⟩:=h
 refine ⟨_,(zd (zj (i:=3) zhs.nd rfl (Or.inl rfl) (zH F_way_to hr (by omega) (by rfl) zD (za (pv 0) (za (pv 1) (za (pv 2) zc)))))
 (ze (zl (zcE (zS (zC F_ends_at hr (by omega) (by rfl) (za (pv 3) (za (pv 2) zc)))) (zm zA (zm zB (pv 3) (zdn zb6 zb) (fun _ _=>rfl)) (zx (v:=.int 1) (by rfl) g_WORTH ⟨_,rfl⟩) (fun _ _=>rfl)) zP)))),?_⟩
 refine ⟨_,rfl,_,rfl,_,rfl,a,d,cs,n,x,vx,ns,res,rfl,vs,wy,hns,rx,kx,fun er pw ws H1 s1 hpw ew rwy=>?_,qe⟩
 obtain ⟨pre,nd,e,ek,q⟩:=q er
 have eb:zf9 ns x=true:=by
  unfold zf9
  rw [e,List.getLast?_concat]
  show eqT nd.k x=true
  rw [ek,zao]
 refine ⟨_,rfl,_,rfl,pw,ws,ns,x,vx,rfl,SqL.of ew,rwy,wy.keys,rx.keep (Same.tups s1),_,rfl,?_⟩
 rw [eb]
 rw [e,List.map_append] at rwy
 obtain ⟨us,v,rfl,rus,rn⟩:=rwy.unsnoc
 obtain ⟨p,vk,vw,rfl,ea,rk,rw'⟩:=zK rn
 exact ifT rfl ⟨_,rfl,_,rfl,pw,_,_,_,rfl,rfl,SqL.of ew,zdk,p,_,_,_,rfl,rfl,SqT.of ea,rfl,q vw H1 s1 rw'⟩
theorem zkf (D:Dfn K mg "put" sput ["vault","root","key","worth"]) (F_way_to:FnX P w K mg base "way_to" 22 ["vault","root","key"] (zdt C CN CB)):FnX P w K mg base "put" 23 ["vault","root","key","worth"] (ziZ C CN CB):=by
 refine D.okX (k:=22) zk8 (fun vs H Q E h=>?_) (fun f cdv A outer s H vs Q E hr h=>?_)
 ·obtain ⟨a,d,cs,n,x,vx,vw,ns,b,rfl,_⟩:=h;rfl
 obtain ⟨a,d,cs,n,x,vx,vw,ns,b,rfl,vs,wy,hns,rx,kx,qe⟩:=h
 refine ⟨_,(zd (zj (i:=4) zk8.nd rfl (Or.inl rfl) (zH F_way_to hr (by omega) (by rfl) zD (za (pv 0) (za (pv 1) (za (pv 2) zc)))))
 zdz),?_⟩
 exact ⟨_,rfl,_,rfl,_,rfl,a,d,cs,n,x,vx,ns,some b,rfl,vs,wy,hns,rx,kx,(by intro er;cases er),(by intro b' H' e s;cases e;exact qe H' s)⟩
theorem zio (D:Dfn K mg "part" zim ["vault","root","key"]) (F_way_to:FnX P w K mg base "way_to" 22 ["vault","root","key"] (zdt C CN CB)):FnX P w K mg base "part" 23 ["vault","root","key"] (zhy C CN CB):=by
 refine D.okX (k:=22) zjv (fun vs H Q E h=>?_) (fun f cdv A outer s H vs Q E hr h=>?_)
 ·obtain ⟨a,d,cs,n,x,vx,ns,b,rfl,_⟩:=h;rfl
 obtain ⟨a,d,cs,n,x,vx,ns,b,rfl,vs,wy,hns,rx,kx,qe⟩:=h
 refine ⟨_,(zd (zj (i:=3) zjv.nd rfl (Or.inl rfl) (zH F_way_to hr (by omega) (by rfl) zD (za (pv 0) (za (pv 1) (za (pv 2) zc)))))
 zdz),?_⟩
 exact ⟨_,rfl,_,rfl,_,rfl,a,d,cs,n,x,vx,ns,some b,rfl,vs,wy,hns,rx,kx,(by intro er;cases er),(by intro b' H' e s;cases e;exact qe H' s)⟩
end
end Pv
namespace Pv
open PySem L2
def jn (one other:Nd)(l r:Int):Th:=if zaV one.k other.k=true then z9 one.k one.w one.l r (one.c+other.c) else z9 other.k other.w l other.r (one.c+other.c)
def zdh (C CC CN CB a d:Addr)(cs:List (Int ×Th))(l r m:Int)(H:Hp)(Q:VK)(E:XK):Prop:=
 (∃b,ben cs l m=.error b∧∀H',Same H H'→E (.ref (exA CN CB b)) none H')∨(∃one b,ben cs l m=.ok one∧ben cs r m=.error b∧∀H',Same H H'→E (.ref (exA CN CB b)) none H')∨
 (∃one other,ben cs l m=.ok one∧ben cs r m=.ok other∧one.r=0∧other.l=0∧KeyT one.k∧KeyT other.k∧Good (jn one other l r)∧cs.length≤900000∧Cl CC E∧
  ∀H',Fr1 d H H'→VS H' C a d (addT cs (zy (jn one other l r)) (jn one other l r))→Q (.int (zy (jn one other l r))) H')
theorem zdh.same {C CC CN CB a d:Addr}{cs:List (Int ×Th)}{l r m:Int}{H H1:Hp}{Q:VK}{E:XK}(h:zdh C CC CN CB a d cs l r m H Q E)(s:Same H H1):zdh C CC CN CB a d cs l r m H1 Q E:=by
 rcases h with ⟨b,e,q⟩ | ⟨one,b,e1,e2,q⟩ | ⟨one,other,e1,e2,e3,e4,k1,k2,g,hl,cl,q⟩
 ·exact .inl ⟨b,e,fun H' s'=>q H' fun b o z=>s' b o (s b o z)⟩
 ·exact .inr (.inl ⟨one,b,e1,e2,fun H' s'=>q H' fun b o z=>s' b o (s b o z)⟩)
 ·exact .inr (.inr ⟨one,other,e1,e2,e3,e4,k1,k2,g,hl,cl,fun H' f=>q H' ((Same.fr1 s).trans f)⟩)
theorem zdh.imp {C CC CN CB a d:Addr}{cs:List (Int ×Th)}{l r m:Int}{H:Hp}{Q Q':VK}{E:XK}(h:zdh C CC CN CB a d cs l r m H Q E)(k:∀n H',Fr1 d H H'→Q (.int n) H'→Q' (.int n) H'):zdh C CC CN CB a d cs l r m H Q' E:=by
 rcases h with h | h | ⟨one,other,e1,e2,e3,e4,k1,k2,g,hl,cl,q⟩
 ·exact .inl h
 ·exact .inr (.inl h)
 ·exact .inr (.inr ⟨one,other,e1,e2,e3,e4,k1,k2,g,hl,cl,fun H' f v=>k _ H' f (q H' f v)⟩)
def zfr (C CC CN CB:Addr):Sp:=fun vs H Q E=>∃(a d:Addr) (cs:List (Int ×Th)) (l r m:Int),vs=[.ref a,.int l,.int r,.int m]∧VS H C a d cs∧l≠0∧r≠0∧zdh C CC CN CB a d cs l r m H Q E
def zhu (C CC CN CB:Addr):Sp:=fun vs H Q E=>∃(a d:Addr) (cs:List (Int ×Th)) (l r:Int),vs=[.ref a,.int l,.int r]∧VS H C a d cs∧l≠0∧r≠0∧zdh C CC CN CB a d cs l r 301 H Q E
def zg5:Sp:=fun vs H Q _=>∃(a pw:Addr) (vx:V) (r m:Int),vs=[.ref a,.ref pw,vx,.int r,.int m]∧H pw=some (.lst [])∧Q (.int r) H
def zgL (C CC CN CB:Addr):Sp:=fun vs H Q E=>∃(a d:Addr) (cs:List (Int ×Th)) (n:Int) (x:Th) (vx:V),vs=[.ref a,.int n,vx]∧VS H C a d cs∧Rep H x vx∧KeyT x∧
 ((∃ns b,Way cs x n 301 ns (some b)∧ns.length≤300∧∀H',Same H H'→E (.ref (exA CN CB b)) none H')∨(∃nd,n≠0∧ben cs n 301=.ok nd∧nd.k=x∧nd.l≠0∧nd.r≠0∧zdh C CC CN CB a d cs nd.l nd.r nd.c H Q E))
def zjn (C CN CB:Addr):Sp:=fun vs H Q E=>∃(a d:Addr) (cs:List (Int ×Th)) (n:Int) (x:Th) (vx:V) (ns:List Nd) (res:Option Bool),vs=[.ref a,.int n,vx]∧VS H C a d cs∧Way cs x n 301 ns res∧ns.length≤300∧Rep H x vx∧KeyT x∧
 (res=none→(∀nd∈ns,∃c,zai cs nd.l nd.c=.ok c)∧∀i H',Same H H'→Q (.int i) H')∧(∀b H',res=some b→Same H H'→E (.ref (exA CN CB b)) none H')
def zb8 (C CN CB:Addr):Sp:=fun vs H Q E=>∃(a d:Addr) (cs:List (Int ×Th)) (n:Int) (lo hi:Th) (vl vh:V),vs=[.ref a,.int n,vl,vh]∧VS H C a d cs∧Rep H lo vl∧Rep H hi vh∧dep lo≤3∧
 ((za2 lo hi=true∧∀H',Same H H'→Q (.int 0) H')∨(lo=.non∧KeyT hi∧∃ns b,Way cs hi n 301 ns (some b)∧ns.length≤300∧∀H',Same H H'→E (.ref (exA CN CB b)) none H')∨
  (za2 lo hi=false∧KeyT lo∧KeyT hi∧∃ns ns',Way cs hi n 301 ns none∧Way cs lo n 301 ns' none∧ns.length≤300∧ns'.length≤300∧(∀nd∈ns,∃c,zai cs nd.l nd.c=.ok c)∧(∀nd∈ns',∃c,zai cs nd.l nd.c=.ok c)∧∀i H',Same H H'→Q (.int i) H'))
def zgU (C CN CB:Addr):Sp:=fun vs H Q E=>∃(a d:Addr) (cs:List (Int ×Th)) (n i:Int),vs=[.ref a,.int n,.int i]∧VS H C a d cs∧
 ((i < 0∧Q .non H)∨(i=0∧n≠0∧∃nd b,ben cs n 301=.ok nd∧zai cs nd.l nd.c=.error b∧E (.ref (exA CN CB b)) none H))
section
variable {P:Program}{w:World}{K:PySem.W.Frag}{mg:Str→Option Value}{base:Heap}{C CC CN CB:Addr}{x:Str}{t1 t2 t3 t4 t5 t6 t7:Tok}
theorem zis (D:Dfn K mg "hung" zjk ["vault","way","key","root","more"]) (m_reversed:mg "reversed" =none):FnX P w K mg base "hung" 1 ["vault","way","key","root","more"] zg5:=by
 refine D.okX (k:=0) zi0 (fun vs H Q E h=>?_) (fun f cdv A outer s H vs Q E hr h=>?_)
 ·obtain ⟨a,pw,vx,r,m,rfl,_⟩:=h;rfl
 obtain ⟨a,pw,vx,r,m,rfl,ew,q⟩:=h
 refine ⟨_,(zd (zaA PassesOwn.leaving rfl (zjO (by rfl) m_reversed (pv 1)) (z7 (i:=5) zi0.nd rfl (Or.inl rfl))
 zdz)
 (ze (zl (pv 3)))),?_⟩
 refine ⟨_,rfl,pw,[],rfl,SqL.of ew,?_⟩
 refine zfz (fun j σ H'=>σ=[some (.ref a),some (.ref pw),some vx,some (.int r),some (.int m),none]∧H'=H) ⟨rfl,rfl⟩ ?_ ?_ ?_
 ·rintro j σ H' ⟨rfl,rfl⟩
  exact SqL.of ew
 ·rintro j y σ H' hj hy
  exact absurd hj (Nat.not_lt_zero j)
 ·rintro σ H' ⟨rfl,rfl⟩
  exact ⟨_,rfl,q⟩
theorem ziz (D:Dfn K mg "joined" zfn ["vault","left","right","count"]) (F_node_beneath:FnX P w K mg base "node_beneath" 4 ["vault","root","count"] (zcZ C CN CB)) (F_above:Fn P w K mg base "above" 21 ["key","other"] zfk) (M_lay:Mt P w K mg base (CX1 P w) C "lay" 14 ["self","thing"] (zed C CC)) (c_C:Cls K C) (F_with_tree:Fn P w K mg base "with_tree" 1 ["node","side","root","count"] zhv)
  (g_KEY:mg "KEY" =some (.int 0 t1)) (g_LEFT:mg "LEFT" =some (.int 2 t3)) (g_RIGHT:mg "RIGHT" =some (.int 3 t4)) (g_COUNT:mg "COUNT" =some (.int 4 t5)) (m_reversed:mg "reversed" =none):FnX P w K mg base "joined" 22 ["vault","left","right","count"] (zfr C CC CN CB):=by
 refine D.okX (k:=21) zak (fun vs H Q E h=>?_) (fun f cdv A outer s H vs Q E hr h=>?_)
 ·obtain ⟨a,d,cs,l,r,m,rfl,_⟩:=h;rfl
 obtain ⟨a,d,cs,l,r,m,rfl,vs,hl,hr0,jc⟩:=h
 refine ⟨_,(zd (zj (i:=4) zak.nd rfl (Or.inl rfl) (pv 3))
 (zd (zj (i:=5) zak.nd rfl (Or.inl rfl) (pv 3))
 (zd (zj (i:=6) zak.nd rfl (Or.inl rfl) (zM zc))
 (zd (zdd PassesOwn.leaving (PW.pt (zfg (zw zbu (pv 1) zb (zt _)) (zd1 (zw zbu (pv 2) zb (zt _)))))
 (zd (zj (i:=7) zak.nd rfl (Or.inl rfl) (zH F_node_beneath hr (by omega) (by rfl) zD (za (pv 0) (za (pv 1) (za (pv 4) zc)))))
 (zd (zj (i:=8) zak.nd rfl (Or.inl rfl) (zH F_node_beneath hr (by omega) (by rfl) zD (za (pv 0) (za (pv 2) (za (pv 5) zc)))))
 (zd (zj (i:=9) zak.nd rfl (Or.inl rfl) (zo zO (zm zA (pv 7) (zx (v:=.int 4) (by rfl) g_COUNT ⟨_,rfl⟩) (fun _ _=>rfl)) (zm zA (pv 8) (zx (v:=.int 4) (by rfl) g_COUNT ⟨_,rfl⟩) (fun _ _=>rfl))))
 (ze (zE (zS (zC F_above hr (by omega) (by rfl) (za (zm zA (pv 7) (zx (v:=.int 0) (by rfl) g_KEY ⟨_,rfl⟩) (fun _ _=>rfl)) (za (zm zA (pv 8) (zx (v:=.int 0) (by rfl) g_KEY ⟨_,rfl⟩) (fun _ _=>rfl)) zc))))
 (zd (zaC (zcv PySem.F.plainAttrs_list PySem.F.slot_list_append PySem.F.type_list_append zar (pv 6) (za (zJ (za (pv 7) (za (zx (v:=.int 3) (by rfl) g_RIGHT ⟨_,rfl⟩) (za (pv 9) zc)))) zc)))
 (zd (zj (i:=1) zak.nd rfl (Or.inl rfl) (zm zA (pv 7) (zx (v:=.int 3) (by rfl) g_RIGHT ⟨_,rfl⟩) (fun _ _=>rfl)))
 (ze (zj (i:=4) zak.nd rfl (Or.inl rfl) (zm zA (pv 7) (zx (v:=.int 4) (by rfl) g_COUNT ⟨_,rfl⟩) (fun _ _=>rfl))))))
 (zd (zaC (zcv PySem.F.plainAttrs_list PySem.F.slot_list_append PySem.F.type_list_append zar (pv 6) (za (zJ (za (pv 8) (za (zx (v:=.int 2) (by rfl) g_LEFT ⟨_,rfl⟩) (za (pv 9) zc)))) zc)))
 (zd (zj (i:=2) zak.nd rfl (Or.inl rfl) (zm zA (pv 8) (zx (v:=.int 2) (by rfl) g_LEFT ⟨_,rfl⟩) (fun _ _=>rfl)))
 (ze (zj (i:=5) zak.nd rfl (Or.inl rfl) (zm zA (pv 8) (zx (v:=.int 4) (by rfl) g_COUNT ⟨_,rfl⟩) (fun _ _=>rfl))))))))))))
 (zd (zj (i:=10) zak.nd rfl (Or.inl rfl) (zcE (zw zac (pv 1) zb (zt _)) (pv 2) (pv 1)))
 (zd (zaA PassesOwn.leaving rfl (zjO (by rfl) m_reversed (pv 6)) (z7 (i:=11) zak.nd rfl (Or.inl rfl))
 (ze (zj (i:=10) zak.nd rfl (Or.inl rfl) (zbR (pv 0) c_C M_lay hr (by omega) zD (za (zC F_with_tree hr (by omega) (by rfl) (za (zm zA (pv 11) zb (fun _ _=>rfl)) (za (zm zA (pv 11) zb (fun _ _=>rfl)) (za (pv 10) (za (zm zA (pv 11) zb (fun _ _=>rfl)) zc))))) zc)))))
 (ze (zl (pv 10))))))))),?_⟩
 refine ⟨_,rfl,_,rfl,szl (show 0≤1000 by decide),fun pd hpd=>?_⟩
 have s0:=zk (o:=.lst []) (Same.refl H) hpd
 have e0:upd H pd (.lst []) pd=some (.lst []):=zf
 generalize upd H pd (.lst [])=H0 at s0 e0
 have vs0:=vs.same s0
 dsimp only [zaZ]
 rcases jc with ⟨b,eb,qe⟩ | ⟨one,b,e1,eb,qe⟩ | ⟨one,other,e1,e2,z1,z2,k1,k2,gd,hcl,cl,q⟩
 ·refine ⟨fun _ σ H'=>σ=[some (.ref a),some (.int l),some (.int r),some (.int m),some (.int m),some (.int m),some (.ref pd),none,none,none,none,none]∧H'=H0,⟨0,rfl,rfl⟩,?_⟩
  rintro m' σ H1 ⟨rfl,rfl⟩
  refine ⟨_,rfl,rfl,_,rfl,?_⟩
  rw [zR]
  refine ifT (by rw [decide_eq_false hl];rfl) ⟨_,rfl,rfl,_,rfl,?_⟩
  rw [zR]
  refine ifT (by rw [decide_eq_false hr0];rfl) ⟨_,fun σ' H' h=>h,?_⟩
  refine ⟨_,rfl,_,rfl,_,rfl,a,d,cs,l,m,rfl,vs0,fun nd v e _=>(by rw [eb] at e;cases e),fun b' e=>?_⟩
  rw [eb] at e;cases e
  exact qe _ s0
 ·refine ⟨fun _ σ H'=>σ=[some (.ref a),some (.int l),some (.int r),some (.int m),some (.int m),some (.int m),some (.ref pd),none,none,none,none,none]∧H'=H0,⟨0,rfl,rfl⟩,?_⟩
  rintro m' σ H1 ⟨rfl,rfl⟩
  refine ⟨_,rfl,rfl,_,rfl,?_⟩
  rw [zR]
  refine ifT (by rw [decide_eq_false hl];rfl) ⟨_,rfl,rfl,_,rfl,?_⟩
  rw [zR]
  refine ifT (by rw [decide_eq_false hr0];rfl) ⟨_,fun σ' H' h=>h,?_⟩
  refine ⟨_,rfl,_,rfl,_,rfl,a,d,cs,l,m,rfl,vs0,fun nd v e _=>?_,fun b' e=>(by rw [e1] at e;cases e)⟩
  refine ⟨_,rfl,_,rfl,_,rfl,a,d,cs,r,m,rfl,vs0,fun nd v e _=>(by rw [eb] at e;cases e),fun b' e=>?_⟩
  rw [eb] at e;cases e
  exact qe _ s0
 ·generalize hb:zaV one.k other.k=b
  refine ⟨fun j σ H'=>(j=1∧σ=[some (.ref a),some (.int l),some (.int r),some (.int m),some (.int m),some (.int m),some (.ref pd),none,none,none,none,none]∧H'=H0)∨
   (j=0∧∃(lc rc:Int) (k7 k8 k9:Option V) (pt:Addr),σ=[some (.ref a),some (.int (if b=true then 0 else l)),some (.int (if b=true then r else 0)),some (.int m),some (.int lc),some (.int rc),some (.ref pd),k7,k8,k9,none,none]∧Same H H'∧H' pd=some (.lst [.ref pt])∧
    Rep H' (.tup [(if b=true then one else other).th,.int (if b=true then 3 else 2),.int (one.c+other.c)]) (.ref pt)),⟨1,.inl ⟨rfl,rfl,rfl⟩⟩,?_⟩
  rintro j σ H1 (⟨rfl,rfl,rfl⟩ | ⟨rfl,lc,rc,k7,k8,k9,pt,rfl,s1,ed,rp⟩)
  ·refine ⟨_,rfl,rfl,_,rfl,?_⟩
   rw [zR]
   refine ifT (by rw [decide_eq_false hl];rfl) ⟨_,rfl,rfl,_,rfl,?_⟩
   rw [zR]
   refine ifT (by rw [decide_eq_false hr0];rfl) ⟨_,fun σ' H' h=>h,?_⟩
   refine ⟨_,rfl,_,rfl,_,rfl,a,d,cs,l,m,rfl,vs0,fun nd v e rn=>?_,fun b' e=>(by rw [e1] at e;cases e)⟩
   rw [e1] at e;cases e
   refine ⟨_,rfl,_,rfl,_,rfl,a,d,cs,r,m,rfl,vs0,fun nd v' e rn'=>?_,fun b' e=>(by rw [e2] at e;cases e)⟩
   rw [e2] at e;cases e
   obtain ⟨p,vk,vw,rfl,ea,rk,_⟩:=zK rn
   obtain ⟨p',vk',vw',rfl,ea',rk',_⟩:=zK rn'
   have et:SqT K H1 p _:=SqT.of ea
   have et':SqT K H1 p' _:=SqT.of ea'
   refine ⟨_,rfl,p,_,_,_,rfl,rfl,et,rfl,_,rfl,p',_,_,_,rfl,rfl,et',rfl,_,_,rfl,rfl,?_⟩
   refine ⟨_,rfl,p,_,_,_,rfl,rfl,et,rfl,_,rfl,p',_,_,_,rfl,rfl,et',rfl,one.k,other.k,_,_,rfl,rk,rk',k1.good,k2.good,fun H2 s2=>⟨_,rfl,?_⟩⟩
   have s02:Same H H2:=fun b o e=>s2 b o (s0 b o e)
   have ew2:=s2 _ _ e0
   have ea2:=s2 _ _ ea
   have ea2':=s2 _ _ ea'
   rw [hb]
   cases b with
   | true=>
    refine ifT rfl ?_
    refine ⟨_,rfl,.inl ⟨rfl,_,SqL.of ew2⟩,_,rfl,_,rfl,szl (show 3≤1000 by decide),fun pt hpt=>?_⟩
    have rp:=(RepL.cons (rn.keep (Same.tups s2)) (.cons (.int 3) (.cons (.int (one.c+other.c)) .nil))).new hpt
    have s3:=zk (o:=.tup [.ref p,.int 3,.int (one.c+other.c)]) (Same.refl H2) hpt
    generalize upd H2 pt (.tup [.ref p,.int 3,.int (one.c+other.c)])=H3 at rp s3
    have ew3:=s3 _ _ ew2
    refine ⟨pd,[],_,rfl,rfl,ew3,Nat.lt_of_lt_of_le (show (0:Nat) < 1000 by decide) (szl (Nat.le_refl _)),?_⟩
    have tk4:Tups H3 (upd H3 pd (.lst ([]++ [.ref pt]))):=Tups.upd fun xs z=>by rw [ew3] at z;cases z
    have s04:Same H (upd H3 pd (.lst ([]++ [.ref pt]))):=zaw (fun b o e=>s3 b o (s02 b o e)) hpd
    have e4:upd H3 pd (.lst ([]++ [.ref pt])) pd=some (.lst ([]++ [.ref pt])):=zf
    have rp4:=rp.keep tk4
    have ea4:=tk4 _ _ (s3 _ _ ea2)
    generalize upd H3 pd (.lst ([]++ [.ref pt]))=H4 at tk4 s04 e4 rp4 ea4
    refine ⟨_,rfl,p,_,_,_,rfl,rfl,SqT.of ea4,rfl,?_⟩
    refine ⟨_,rfl,p,_,_,_,rfl,rfl,SqT.of ea4,rfl,?_⟩
    refine ⟨0,Nat.one_pos,.inr ⟨rfl,one.c,m,some (.ref p),some (.ref p'),some (.int (one.c+other.c)),pt,?_,s04,e4,rp4⟩⟩
    rw [z1];rfl
   | false=>
    refine ifF rfl ?_
    refine ⟨_,rfl,.inl ⟨rfl,_,SqL.of ew2⟩,_,rfl,_,rfl,szl (show 3≤1000 by decide),fun pt hpt=>?_⟩
    have rp:=(RepL.cons (rn'.keep (Same.tups s2)) (.cons (.int 2) (.cons (.int (one.c+other.c)) .nil))).new hpt
    have s3:=zk (o:=.tup [.ref p',.int 2,.int (one.c+other.c)]) (Same.refl H2) hpt
    generalize upd H2 pt (.tup [.ref p',.int 2,.int (one.c+other.c)])=H3 at rp s3
    have ew3:=s3 _ _ ew2
    refine ⟨pd,[],_,rfl,rfl,ew3,Nat.lt_of_lt_of_le (show (0:Nat) < 1000 by decide) (szl (Nat.le_refl _)),?_⟩
    have tk4:Tups H3 (upd H3 pd (.lst ([]++ [.ref pt]))):=Tups.upd fun xs z=>by rw [ew3] at z;cases z
    have s04:Same H (upd H3 pd (.lst ([]++ [.ref pt]))):=zaw (fun b o e=>s3 b o (s02 b o e)) hpd
    have e4:upd H3 pd (.lst ([]++ [.ref pt])) pd=some (.lst ([]++ [.ref pt])):=zf
    have rp4:=rp.keep tk4
    have ea4:=tk4 _ _ (s3 _ _ ea2')
    generalize upd H3 pd (.lst ([]++ [.ref pt]))=H4 at tk4 s04 e4 rp4 ea4
    refine ⟨_,rfl,p',_,_,_,rfl,rfl,SqT.of ea4,rfl,?_⟩
    refine ⟨_,rfl,p',_,_,_,rfl,rfl,SqT.of ea4,rfl,?_⟩
    refine ⟨0,Nat.one_pos,.inr ⟨rfl,m,other.c,some (.ref p),some (.ref p'),some (.int (one.c+other.c)),pt,?_,s04,e4,rp4⟩⟩
    rw [z2];rfl
  ·have fin:∀(X:L2.St) (k10:Option V),X=[some (.ref a),some (.int (if b=true then 0 else l)),some (.int (if b=true then r else 0)),some (.int m),some (.int lc),some (.int rc),some (.ref pd),k7,k8,k9,some (.int (if b=true then r else l)),none]→True:=fun _ _ _=>trivial
   refine ⟨_,rfl,rfl,_,rfl,?_⟩
   rw [zR]
   have vs1:=vs.same s1
   obtain ⟨kv1,vo1,_⟩:=vs1.vo
   obtain ⟨⟨dx,fs,eo,fl⟩,_⟩:=id vo1
   obtain ⟨pt',xs,e,ept,rx⟩:=rp.list
   cases e
   cases rx with
   | cons rn rx2=>
   cases rx2 with
   | cons r2 rx3=>
   cases rx3 with
   | cons r3 rx4=>
   cases rx4 with
   | nil=>
   cases r2
   cases r3
   cases b with
   | true=>
    refine ifF rfl (ifF rfl ?_)
    refine ⟨_,rfl,rfl,_,rfl,?_⟩
    rw [zR]
    refine ifT rfl ⟨_,rfl,?_⟩
    refine ⟨_,rfl,pd,_,rfl,SqL.of ed,?_⟩
    refine zfz (fun i σ H'=>(i=0∧σ=[some (.ref a),some (.int 0),some (.int r),some (.int m),some (.int lc),some (.int rc),some (.ref pd),k7,k8,k9,some (.int r),none]∧H'=H1)∨
     (i=1∧∃k11,σ=[some (.ref a),some (.int 0),some (.int r),some (.int m),some (.int lc),some (.int rc),some (.ref pd),k7,k8,k9,some (.int (zy (jn one other l r))),k11]∧Fr1 d H1 H'∧VS H' C a d (addT cs (zy (jn one other l r)) (jn one other l r)))) (.inl ⟨rfl,rfl,rfl⟩) ?_ ?_ ?_
    ·rintro i σ H' (⟨_,_,rfl⟩ | ⟨_,k11,_,fr,_⟩)
     ·exact SqL.of ed
     ·exact SqL.of (vs1.lst fr ed)
    ·rintro i y σ H' hi hy (⟨rfl,rfl,rfl⟩ | ⟨rfl,_⟩)
     ·have ey:y=.ref pt:=by simpa using hy.symm
      subst ey
      have et:SqT K H' pt _:=SqT.of ept
      refine ⟨_,rfl,a,dx,fs,rfl,eo,fl.n2,_,rfl,pt,_,_,_,rfl,rfl,et,rfl,_,rfl,pt,_,_,_,rfl,rfl,et,rfl,_,rfl,_,rfl,pt,_,_,_,rfl,rfl,et,rfl,_,one.k,one.w,true,_,_,_,_,_,rfl,rn,fun p2 H3 s3 r3=>?_⟩
      have ej:jn one other l r=z9 one.k one.w one.l r (one.c+other.c):=if_pos hb
      have r3':Rep H3 (jn one other l r) (.ref p2):=by rw [ej];exact r3
      exact ⟨a,d,cs,_,_,rfl,vs1.same s3,by omega,r3',gd,cl,fun H4 f4 ft vs4=>.inr ⟨rfl,_,rfl,(Same.fr1 s3).trans f4,vs4⟩⟩
     ·exact absurd hi (by simp)
    ·rintro σ H' (⟨z,_⟩ | ⟨_,k11,rfl,fr,vs2⟩)
     ·exact absurd z (by simp)
     ·exact ⟨_,rfl,q H' ((Same.fr1 s1).trans fr) vs2⟩
   | false=>
    refine ifT (by show (!decide (l=0))=true;rw [decide_eq_false hl];rfl) ⟨_,rfl,rfl,_,rfl,?_⟩
    rw [zR]
    refine ifF rfl ?_
    refine ⟨_,rfl,rfl,_,rfl,?_⟩
    rw [zR]
    refine ifF (decide_eq_false hl) ⟨_,rfl,?_⟩
    refine ⟨_,rfl,pd,_,rfl,SqL.of ed,?_⟩
    refine zfz (fun i σ H'=>(i=0∧σ=[some (.ref a),some (.int l),some (.int 0),some (.int m),some (.int lc),some (.int rc),some (.ref pd),k7,k8,k9,some (.int l),none]∧H'=H1)∨
     (i=1∧∃k11,σ=[some (.ref a),some (.int l),some (.int 0),some (.int m),some (.int lc),some (.int rc),some (.ref pd),k7,k8,k9,some (.int (zy (jn one other l r))),k11]∧Fr1 d H1 H'∧VS H' C a d (addT cs (zy (jn one other l r)) (jn one other l r)))) (.inl ⟨rfl,rfl,rfl⟩) ?_ ?_ ?_
    ·rintro i σ H' (⟨_,_,rfl⟩ | ⟨_,k11,_,fr,_⟩)
     ·exact SqL.of ed
     ·exact SqL.of (vs1.lst fr ed)
    ·rintro i y σ H' hi hy (⟨rfl,rfl,rfl⟩ | ⟨rfl,_⟩)
     ·have ey:y=.ref pt:=by simpa using hy.symm
      subst ey
      have et:SqT K H' pt _:=SqT.of ept
      refine ⟨_,rfl,a,dx,fs,rfl,eo,fl.n2,_,rfl,pt,_,_,_,rfl,rfl,et,rfl,_,rfl,pt,_,_,_,rfl,rfl,et,rfl,_,rfl,_,rfl,pt,_,_,_,rfl,rfl,et,rfl,_,other.k,other.w,false,_,_,_,_,_,rfl,rn,fun p2 H3 s3 r3=>?_⟩
      have ej:jn one other l r=z9 other.k other.w l other.r (one.c+other.c):=if_neg (by rw [hb];exact Bool.false_ne_true)
      have r3':Rep H3 (jn one other l r) (.ref p2):=by rw [ej];exact r3
      exact ⟨a,d,cs,_,_,rfl,vs1.same s3,by omega,r3',gd,cl,fun H4 f4 ft vs4=>.inr ⟨rfl,_,rfl,(Same.fr1 s3).trans f4,vs4⟩⟩
     ·exact absurd hi (by simp)
    ·rintro σ H' (⟨z,_⟩ | ⟨_,k11,rfl,fr,vs2⟩)
     ·exact absurd z (by simp)
     ·exact ⟨_,rfl,q H' ((Same.fr1 s1).trans fr) vs2⟩
theorem zjq (D:Dfn K mg "join" zi9 ["vault","left","right"]) (F_joined:FnX P w K mg base "joined" 22 ["vault","left","right","count"] (zfr C CC CN CB)) (g_BENEATH_NONE:mg "BENEATH_NONE" =some (.int 301 t7)):FnX P w K mg base "join" 23 ["vault","left","right"] (zhu C CC CN CB):=by
 refine D.okX (k:=22) zlN (fun vs H Q E h=>?_) (fun f cdv A outer s H vs Q E hr h=>?_)
 ·obtain ⟨a,d,cs,l,r,rfl,_⟩:=h;rfl
 obtain ⟨a,d,cs,l,r,rfl,vs,hl,hr0,jc⟩:=h
 refine ⟨_,(ze (zl (zH F_joined hr (by omega) (by rfl) zD (za (pv 0) (za (pv 1) (za (pv 2) (za (zx (v:=.int 301) (by rfl) g_BENEATH_NONE ⟨_,rfl⟩) zc))))))),?_⟩
 exact ⟨_,rfl,_,rfl,_,rfl,a,d,cs,l,r,301,rfl,vs,hl,hr0,jc⟩
theorem zkn (D:Dfn K mg "cut" scut ["vault","root","key"]) (F_way_to:FnX P w K mg base "way_to" 22 ["vault","root","key"] (zdt C CN CB)) (F_ends_at:Fn P w K mg base "ends_at" 1 ["way","key"] (zfq K)) (F_hung:FnX P w K mg base "hung" 1 ["vault","way","key","root","more"] zg5) (F_joined:FnX P w K mg base "joined" 22 ["vault","left","right","count"] (zfr C CC CN CB))
  (g_COUNT:mg "COUNT" =some (.int 4 t5)) (g_LEFT:mg "LEFT" =some (.int 2 t3)) (g_RIGHT:mg "RIGHT" =some (.int 3 t4)):FnX P w K mg base "cut" 23 ["vault","root","key"] (zgL C CC CN CB):=by
 refine D.okX (k:=22) ziK (fun vs H Q E h=>?_) (fun f cdv A outer s H vs Q E hr h=>?_)
 ·obtain ⟨a,d,cs,n,x,vx,rfl,_⟩:=h;rfl
 obtain ⟨a,d,cs,n,x,vx,rfl,vs,rx,kx,h⟩:=h
 refine ⟨_,(zd (zj (i:=3) ziK.nd rfl (Or.inl rfl) (zH F_way_to hr (by omega) (by rfl) zD (za (pv 0) (za (pv 1) (za (pv 2) zc)))))
 (zd (zE (zbs (zS (zC F_ends_at hr (by omega) (by rfl) (za (pv 3) (za (pv 2) zc)))))
 (ze (zl (pv 1)))
 zu)
 (zd (zj (i:=4) ziK.nd rfl (Or.inl rfl) (zm zB (pv 3) (zdn zb6 zb) (fun _ _=>rfl)))
 (ze (zl (zH F_hung hr (by omega) (by rfl) zD (za (pv 0) (za (za1 zbC (pv 3) zcf (zaY (zdn zb6 zb))) (za (pv 2) (za (zH F_joined hr (by omega) (by rfl) zD (za (pv 0) (za (zm zA (pv 4) (zx (v:=.int 2) (by rfl) g_LEFT ⟨_,rfl⟩) (fun _ _=>rfl)) (za (zm zA (pv 4) (zx (v:=.int 3) (by rfl) g_RIGHT ⟨_,rfl⟩) (fun _ _=>rfl)) (za (zm zA (pv 4) (zx (v:=.int 4) (by rfl) g_COUNT ⟨_,rfl⟩) (fun _ _=>rfl)) zc))))) (za (zdn zb6 zb) zc))))))))))),?_⟩
 rcases h with ⟨ns,b,wy,hns,qe⟩ | ⟨nd,hn,eb,ek,hl,hr0,jc⟩
 ·exact ⟨_,rfl,_,rfl,_,rfl,a,d,cs,n,x,vx,ns,some b,rfl,vs,wy,hns,rx,kx,(by intro er;cases er),(by intro b' H' e s;cases e;exact qe H' s)⟩
 ·have kk:KeyT nd.k:=ek ▸ kx
  refine ⟨_,rfl,_,rfl,_,rfl,a,d,cs,n,x,vx,[nd],none,rfl,vs,.own hn eb kk ek,by simp,rx,kx,fun _ pw ws H1 s1 hpw ew rwy=>?_,(by intro b' H' e s;cases e)⟩
  have rx1:=rx.keep (Same.tups s1)
  have vs1:=vs.same s1
  refine ⟨_,rfl,_,rfl,pw,ws,[nd],x,vx,rfl,SqL.of ew,rwy,(fun y hy=>by rw [List.mem_singleton.mp hy];exact kk),rx1,_,rfl,?_⟩
  have ee:zf9 [nd] x=true:=by
   show eqT nd.k x=true
   rw [ek,zao]
  rw [ee]
  refine ifF rfl ?_
  cases rwy with
  | cons rn rnil=>
  cases rnil with
  | nil=>
  obtain ⟨p,vk,vw',rfl,ea,rk,_⟩:=zK rn
  have et:SqT K H1 p _:=SqT.of ea
  refine ⟨_,rfl,_,rfl,pw,_,_,_,rfl,rfl,SqL.of ew,zdk (xs:=[]),?_⟩
  refine ⟨_,rfl,_,rfl,_,rfl,_,rfl,pw,_,rfl,SqL.of ew,fun pc hpc=>?_⟩
  rw [zkt (n:=0) rfl]
  have s12:=zk (o:=.lst (List.take 0 [V.ref p])) (Same.refl H1) hpc
  have ec:upd H1 pc (.lst (List.take 0 [V.ref p])) pc=some (.lst []):=zf
  generalize upd H1 pc (.lst (List.take 0 [V.ref p]))=H2 at s12 ec
  have vs2:=vs1.same s12
  have et2:SqT K H2 p _:=SqT.of (s12 _ _ ea)
  have s02:Same H H2:=fun b o e=>s12 b o (s1 b o e)
  refine ⟨_,rfl,_,rfl,_,rfl,p,_,_,_,rfl,rfl,et2,rfl,_,rfl,p,_,_,_,rfl,rfl,et2,rfl,_,rfl,p,_,_,_,rfl,rfl,et2,rfl,a,d,cs,nd.l,nd.r,nd.c,rfl,vs2,hl,hr0,(jc.same s02).imp fun n' H3 f3 q=>?_⟩
  exact ⟨_,rfl,a,pc,vx,n', -1,rfl,vs2.lst f3 ec,q⟩
theorem zkg (D:Dfn K mg "count_ahead" zcc ["vault","root","key"]) (F_way_to:FnX P w K mg base "way_to" 22 ["vault","root","key"] (zdt C CN CB)) (F_ahead:Fn P w K mg base "ahead" 20 ["one","other"] (zbo 9)) (F_size_beneath:FnX P w K mg base "size_beneath" 5 ["vault","root","count"] (zcF C CN CB)) (g_KEY:mg "KEY" =some (.int 0 t1)) (g_LEFT:mg "LEFT" =some (.int 2 t3)) (g_COUNT:mg "COUNT" =some (.int 4 t5)):
  FnX P w K mg base "count_ahead" 23 ["vault","root","key"] (zjn C CN CB):=by
 refine D.okX (k:=22) zaR (fun vs H Q E h=>?_) (fun f cdv A outer s H vs Q E hr h=>?_)
 ·obtain ⟨a,d,cs,n,x,vx,ns,res,rfl,_⟩:=h;rfl
 obtain ⟨a,d,cs,n,x,vx,ns,res,rfl,vs,wy,hns,rx,kx,q,qe⟩:=h
 refine ⟨_,(zd (zj (i:=3) zaR.nd rfl (Or.inl rfl) zb)
 (zd (zaA PassesOwn.leaving rfl (zcm (zH F_way_to hr (by omega) (by rfl) zD (za (pv 0) (za (pv 1) (za (pv 2) zc))))) (z7 (i:=4) zaR.nd rfl (Or.inl rfl))
 (zd (zE (zS (zC F_ahead hr (by omega) (by rfl) (za (pv 2) (za (zm zA (pv 4) (zx (v:=.int 0) (by rfl) g_KEY ⟨_,rfl⟩) (fun _ _=>rfl)) zc))))
 (ze zfH)
 zu)
 (zd (zj (i:=3) zaR.nd rfl (Or.inl rfl) (zo zO (pv 3) (zH F_size_beneath hr (by omega) (by rfl) zD (za (pv 0) (za (zm zA (pv 4) (zx (v:=.int 2) (by rfl) g_LEFT ⟨_,rfl⟩) (fun _ _=>rfl)) (za (zm zA (pv 4) (zx (v:=.int 4) (by rfl) g_COUNT ⟨_,rfl⟩) (fun _ _=>rfl)) zc))))))
 (ze (zE (zw (zd0 hr) (zm zA (pv 4) (zx (v:=.int 0) (by rfl) g_KEY ⟨_,rfl⟩) (fun _ _=>rfl)) (pv 2) (zt _))
 (ze (zj (i:=3) zaR.nd rfl (Or.inl rfl) (zo zO (pv 3) zb)))
 zu)))))
 (ze (zl (pv 3))))),?_⟩
 refine ⟨_,rfl,_,rfl,_,rfl,a,d,cs,n,x,vx,ns,res,rfl,vs,wy,hns,rx,kx,fun er pw ws H1 s1 hpw ew rw=>?_,qe⟩
 obtain ⟨hsz,q⟩:=q er
 have hl:ws.length=ns.length:=by rw [rw.len,List.length_map]
 refine ⟨pw,rfl,⟨ws,SqL.of ew⟩,?_⟩
 refine zc5 (xs:=ws) (fun i σ H'=>∃(m:Int) (k4:Option V),σ=[some (.ref a),some (.int n),some vx,some (.int m),k4]∧Same H1 H') ⟨0,_,rfl,Same.refl _⟩ ?_ ?_ ?_
 ·rintro i σ H' _ ⟨m,k4,rfl,sm⟩
  exact SqL.of (sm _ _ ew)
 ·rintro i y σ H' hy ⟨m,k4,rfl,sm⟩
  have hi:i < ws.length:=(List.getElem?_eq_some_iff.mp hy).1
  have hin:i < ns.length:=by omega
  have en:ns[i]? =some ns[i]:=List.getElem?_eq_getElem hin
  have rn:Rep H' ns[i].th y:=(rw.at i y _ hy (by rw [List.getElem?_map,en];rfl)).keep (Same.tups sm)
  have kk:=wy.keys _ (List.getElem_mem hin)
  obtain ⟨c,ec⟩:=hsz _ (List.getElem_mem hin)
  generalize ns[i]=nd at rn kk ec
  obtain ⟨p,vk,vw,rfl,ea,rk,_⟩:=zK rn
  have s1':Same H H':=fun b o e=>sm b o (s1 b o e)
  have rx':=rx.keep (Same.tups s1')
  have kd:=kk.dp
  have kxd:=kx.dp
  refine ⟨_,rfl,_,rfl,p,_,_,_,rfl,rfl,SqT.of ea,rfl,x,nd.k,_,_,rfl,rx',rk,by omega,by omega,fun H2 s2=>⟨_,rfl,?_⟩⟩
  have sm2:Same H1 H2:=fun b o e=>s2 b o (sm b o e)
  cases z:zh x nd.k with
  | true=>exact ifT rfl ⟨m,_,rfl,sm2⟩
  | false=>
   refine ifF rfl ?_
   have et2:SqT K H2 p _:=SqT.of (s2 _ _ ea)
   refine ⟨_,rfl,_,rfl,_,rfl,p,_,_,_,rfl,rfl,et2,rfl,_,rfl,p,_,_,_,rfl,rfl,et2,rfl,a,d,cs,nd.l,nd.c,rfl,vs.same (fun b o e=>s2 b o (s1' b o e)),fun c' ec'=>?_,fun b e=>(by rw [ec] at e;cases e)⟩
   refine ⟨_,_,rfl,rfl,?_⟩
   refine ⟨_,rfl,p,_,_,_,rfl,rfl,et2,rfl,_,rfl,nd.k,x,rk.keep (Same.tups s2),rx'.keep (Same.tups s2),by omega,_,rfl,?_⟩
   refine ifB (fun cc=>?_) (fun cc=>?_)
   ·exact ⟨_,rfl,_,_,rfl,rfl,_,_,rfl,sm2⟩
   ·exact ⟨_,_,rfl,sm2⟩
 ·rintro σ H' ⟨m,k4,rfl,sm⟩
  exact ⟨_,rfl,q m H' fun b o e=>sm b o (s1 b o e)⟩
theorem zf8 (D:Dfn K mg "counted" zd6 ["vault","root","low","high"]) (F_is_empty:Fn P w K mg base "is_empty" 21 ["low","high"] zfs) (F_size:FnX P w K mg base "size" 6 ["vault","root"] (zdY C CN CB)) (F_count_ahead:FnX P w K mg base "count_ahead" 23 ["vault","root","key"] (zjn C CN CB)):FnX P w K mg base "counted" 24 ["vault","root","low","high"] (zb8 C CN CB):=by
 refine D.okX (k:=23) zeY (fun vs H Q E h=>?_) (fun f cdv A outer s H vs Q E hr h=>?_)
 ·obtain ⟨a,d,cs,n,lo,hi,vl,vh,rfl,_⟩:=h;rfl
 obtain ⟨a,d,cs,n,lo,hi,vl,vh,rfl,vs,rl,rh,dl,h⟩:=h
 refine ⟨_,(zd (zE (zS (zC F_is_empty hr (by omega) (by rfl) (za (pv 2) (za (pv 3) zc))))
 (ze (zl zb))
 zu)
 (zd (zj (i:=4) zeY.nd rfl (Or.inl rfl) (zcE (zw za3 (pv 3) zP (zt _)) (zH F_size hr (by omega) (by rfl) zD (za (pv 0) (za (pv 1) zc))) (zH F_count_ahead hr (by omega) (by rfl) zD (za (pv 0) (za (pv 1) (za (pv 3) zc))))))
 (zd (zE (zw za3 (pv 2) zP (zt _))
 (ze (zl (pv 4)))
 zu)
 (ze (zl (zo za0 (pv 4) (zH F_count_ahead hr (by omega) (by rfl) zD (za (pv 0) (za (pv 1) (za (pv 2) zc)))))))))),?_⟩
 refine ⟨_,rfl,_,rfl,lo,hi,vl,vh,rfl,rl,rh,dl,fun H1 s1=>⟨_,rfl,?_⟩⟩
 have rl1:=rl.keep (Same.tups s1)
 have rh1:=rh.keep (Same.tups s1)
 have vs1:=vs.same s1
 rcases h with ⟨he,q⟩ | ⟨rfl,kh,ns,b,wy,hns,qe⟩ | ⟨he,kl,kh,ns,ns',wy,wy',hn1,hn2,z1,z2,q⟩
 ·rw [he]
  exact ifT rfl (q H1 s1)
 ·refine ifF rfl ?_
  refine ⟨_,rfl,rfl,_,rfl,ifF (ze9 rh kh.ne) ?_⟩
  exact ⟨_,rfl,_,rfl,_,rfl,a,d,cs,n,hi,vh,ns,some b,rfl,vs1,wy,hns,rh1,kh,(by intro er;cases er),(by intro b' H' e s;cases e;exact qe H' fun b o z=>s b o (s1 b o z))⟩
 ·rw [he]
  refine ifF rfl ?_
  refine ⟨_,rfl,rfl,_,rfl,ifF (ze9 rh kh.ne) ?_⟩
  refine ⟨_,rfl,_,rfl,_,rfl,a,d,cs,n,hi,vh,ns,none,rfl,vs1,wy,hn1,rh1,kh,fun _=>⟨z1,fun i H2 s2=>?_⟩,(by intro b' H' e s;cases e)⟩
  have s02:Same H H2:=fun b o e=>s2 b o (s1 b o e)
  refine ⟨_,rfl,rfl,_,rfl,ifF (ze9 rl kl.ne) ?_⟩
  refine ⟨_,rfl,_,rfl,_,rfl,_,rfl,a,d,cs,n,lo,vl,ns',none,rfl,vs.same s02,wy',hn2,rl.keep (Same.tups s02),kl,fun _=>⟨z2,fun j H3 s3=>?_⟩,(by intro b' H' e s;cases e)⟩
  exact ⟨_,_,rfl,rfl,q _ H3 fun b o e=>s3 b o (s02 b o e)⟩
theorem zkS (D:Dfn K mg "nth" snth ["vault","root","number"]) (F_node_beneath:FnX P w K mg base "node_beneath" 4 ["vault","root","count"] (zcZ C CN CB)) (F_size_beneath:FnX P w K mg base "size_beneath" 5 ["vault","root","count"] (zcF C CN CB)) (g_KEY:mg "KEY" =some (.int 0 t1)) (g_WORTH:mg "WORTH" =some (.int 1 t2)) (g_LEFT:mg "LEFT" =some (.int 2 t3)) (g_RIGHT:mg "RIGHT" =some (.int 3 t4)) (g_COUNT:mg "COUNT" =some (.int 4 t5)) (g_BENEATH_NONE:mg "BENEATH_NONE" =some (.int 301 t7)):
  FnX P w K mg base "nth" 6 ["vault","root","number"] (zgU C CN CB):=by
 refine D.okX (k:=5) zdS (fun vs H Q E h=>?_) (fun f cdv A outer s H vs Q E hr h=>?_)
 ·obtain ⟨a,d,cs,n,i,rfl,_⟩:=h;rfl
 obtain ⟨a,d,cs,n,i,rfl,vs,h⟩:=h
 refine ⟨_,(zd (zE (zw zcJ (pv 2) zb (zt _))
 (ze (zl zP))
 zu)
 (zd (zj (i:=3) zdS.nd rfl (Or.inl rfl) (zx (v:=.int 301) (by rfl) g_BENEATH_NONE ⟨_,rfl⟩))
 (zd (zdd PassesOwn.leaving (zw zbu (pv 1) zb (zt _))
 (zd (zj (i:=4) zdS.nd rfl (Or.inl rfl) (zH F_node_beneath hr (by omega) (by rfl) zD (za (pv 0) (za (pv 1) (za (pv 3) zc)))))
 (zd (zj (i:=3) zdS.nd rfl (Or.inl rfl) (zm zA (pv 4) (zx (v:=.int 4) (by rfl) g_COUNT ⟨_,rfl⟩) (fun _ _=>rfl)))
 (zd (zE (zw ziS (pv 2) (pv 3) (zt _))
 (ze (zl zP))
 zu)
 (zd (zj (i:=5) zdS.nd rfl (Or.inl rfl) (zH F_size_beneath hr (by omega) (by rfl) zD (za (pv 0) (za (zm zA (pv 4) (zx (v:=.int 2) (by rfl) g_LEFT ⟨_,rfl⟩) (fun _ _=>rfl)) (za (pv 3) zc)))))
 (zd (zE (zw zac (pv 2) (pv 5) (zt _))
 (ze (zl (zJ (za (zm zA (pv 4) (zx (v:=.int 0) (by rfl) g_KEY ⟨_,rfl⟩) (fun _ _=>rfl)) (za (zm zA (pv 4) (zx (v:=.int 1) (by rfl) g_WORTH ⟨_,rfl⟩) (fun _ _=>rfl)) zc)))))
 zu)
 (ze (zE (zw zcJ (pv 2) (pv 5) (zt _))
 (ze (zj (i:=1) zdS.nd rfl (Or.inl rfl) (zm zA (pv 4) (zx (v:=.int 2) (by rfl) g_LEFT ⟨_,rfl⟩) (fun _ _=>rfl))))
 (zd (zj (i:=1) zdS.nd rfl (Or.inl rfl) (zm zA (pv 4) (zx (v:=.int 3) (by rfl) g_RIGHT ⟨_,rfl⟩) (fun _ _=>rfl)))
 (ze (zj (i:=2) zdS.nd rfl (Or.inl rfl) (zo za0 (zo za0 (pv 2) (pv 5)) zb))))))))))))
 (ze (zl zP))))),?_⟩
 refine ⟨_,rfl,_,_,rfl,rfl,_,rfl,?_⟩
 rcases h with ⟨hi,q⟩ | ⟨rfl,hn,nd,b,eb,es,qe⟩
 ·exact ifT (decide_eq_true hi) q
 ·refine ifF rfl ?_
  refine ⟨fun _ σ H'=>σ=[some (.ref a),some (.int n),some (.int 0),some (.int 301),none,none]∧H'=H,⟨0,rfl,rfl⟩,?_⟩
  rintro m σ H1 ⟨rfl,rfl⟩
  refine ⟨_,rfl,rfl,_,rfl,?_⟩
  rw [zR]
  refine ifT (by rw [decide_eq_false hn];rfl) ⟨_,fun σ' H' h=>h,?_⟩
  refine ⟨_,rfl,_,rfl,_,rfl,a,d,cs,n,301,rfl,vs,fun nd' v e rn=>?_,fun b' e=>(by rw [eb] at e;cases e)⟩
  rw [eb] at e;cases e
  obtain ⟨_,ok,_⟩:=zkQ eb
  have c1:=ok.c1
  obtain ⟨p,vk,vw,rfl,ea,rk,_⟩:=zK rn
  have et:SqT K H1 p _:=SqT.of ea
  refine ⟨_,rfl,p,_,_,_,rfl,rfl,et,rfl,?_⟩
  refine ⟨_,rfl,_,rfl,_,_,rfl,rfl,_,rfl,ifF (decide_eq_false (show¬(0:Int)≥nd.c by omega)) ?_⟩
  refine ⟨_,rfl,_,rfl,p,_,_,_,rfl,rfl,et,rfl,_,rfl,a,d,cs,nd.l,nd.c,rfl,vs,fun c e=>(by rw [es] at e;cases e),fun b' e=>?_⟩
  rw [es] at e;cases e
  exact qe
end
end Pv
namespace Pv
open PySem L2
def SumE (cs:List (Int ×Th))(nd:Nd)(b:Bool):Prop:=zai cs nd.l nd.c=.error b∨(∃x,zai cs nd.l nd.c=.ok x∧zai cs nd.r nd.c=.error b)∨(∃x y,zai cs nd.l nd.c=.ok x∧zai cs nd.r nd.c=.ok y∧x+y+1≠nd.c∧b=true)
def SumO (cs:List (Int ×Th))(nd:Nd):Prop:=∃x y,zai cs nd.l nd.c=.ok x∧zai cs nd.r nd.c=.ok y∧x+y+1=nd.c
def inB (lo hi:Th)(nd:Nd):Bool:=zaB hi nd.k && (decide (lo=.non) || !zh nd.k lo)
inductive StW (cs:List (Int ×Th)) (lo hi:Th):Nat→Int→List Nd→List (Th ×Th)→Int→Except Bool (List (Th ×Th))→Prop
 | done {c:Int} {ps:List (Th ×Th)}:StW cs lo hi 0 0 [] ps c (.ok ps)
 | bad {n c:Int} {bg:List Nd} {ps:List (Th ×Th)} {b:Bool}:n≠0→ben cs n c=.error b→StW cs lo hi 0 n bg ps c (.error b)
 | sum {n c:Int} {bg:List Nd} {ps:List (Th ×Th)} {b:Bool} {nd:Nd}:n≠0→ben cs n c=.ok nd→KeyT nd.k→zap lo nd.k=true→zaB hi nd.k=true→SumE cs nd b→StW cs lo hi 0 n bg ps c (.error b)
 | push {k:Nat} {n c:Int} {bg:List Nd} {ps:List (Th ×Th)} {nd:Nd} {res:Except Bool (List (Th ×Th))}:n≠0→ben cs n c=.ok nd→KeyT nd.k→(zap lo nd.k=true→zaB hi nd.k=true→SumO cs nd)→StW cs lo hi k (if zap lo nd.k=true then nd.l else 0) (bg++ [nd]) ps nd.c res→StW cs lo hi (k+1) n bg ps c res
 | pop {k:Nat} {c:Int} {bg:List Nd} {ps:List (Th ×Th)} {nd:Nd} {res:Except Bool (List (Th ×Th))}:KeyT nd.k→StW cs lo hi k (if zaB hi nd.k=true then nd.r else 0) bg (if inB lo hi nd=true then ps++ [(nd.k,nd.w)] else ps) nd.c res→StW cs lo hi (k+1) 0 (bg++ [nd]) ps c res
theorem StW.inv {cs:List (Int ×Th)}{lo hi:Th}{m:Nat}{n c:Int}{bg:List Nd}{ps:List (Th ×Th)}{res:Except Bool (List (Th ×Th))}(h:StW cs lo hi m n bg ps c res):
  (n=0∧bg=[]∧res=.ok ps)∨(n≠0∧∃b,ben cs n c=.error b∧res=.error b)∨
  (n≠0∧∃nd,ben cs n c=.ok nd∧KeyT nd.k∧((zap lo nd.k=true∧zaB hi nd.k=true∧∃b,SumE cs nd b∧res=.error b)∨((zap lo nd.k=true→zaB hi nd.k=true→SumO cs nd)∧∃k,m=k+1∧StW cs lo hi k (if zap lo nd.k=true then nd.l else 0) (bg++ [nd]) ps nd.c res)))∨
  (n=0∧∃nd bg' k,bg=bg'++ [nd]∧m=k+1∧KeyT nd.k∧StW cs lo hi k (if zaB hi nd.k=true then nd.r else 0) bg' (if inB lo hi nd=true then ps++ [(nd.k,nd.w)] else ps) nd.c res):=by
 cases h with
 | done=>exact .inl ⟨rfl,rfl,rfl⟩
 | bad h e=>exact .inr (.inl ⟨h,_,e,rfl⟩)
 | sum h e k g1 g2 s=>exact .inr (.inr (.inl ⟨h,_,e,k,.inl ⟨g1,g2,_,s,rfl⟩⟩))
 | push h e k s w=>exact .inr (.inr (.inl ⟨h,_,e,k,.inr ⟨s,_,rfl,w⟩⟩))
 | pop k w=>exact .inr (.inr (.inr ⟨rfl,_,_,_,rfl,rfl,k,w⟩))
structure SX (H0 H:Hp)(pp pb:Addr)(bg:List Nd)(ps:List (Th ×Th)):Prop where
 sm:Same H0 H
 xs:∃xs,H pp=some (.lst xs)∧RepL H (ps.map zZ) xs
 bs:∃bs,H pb=some (.lst bs)∧RepL H (bg.map Nd.th) bs
theorem SX.same {H0 H H':Hp}{pp pb:Addr}{bg:List Nd}{ps:List (Th ×Th)}(i:SX H0 H pp pb bg ps)(s:Same H H'):SX H0 H' pp pb bg ps:=by
 obtain ⟨xs,e1,r1⟩:=i.xs
 obtain ⟨bs,e2,r2⟩:=i.bs
 exact ⟨fun b o e=>s b o (i.sm b o e),⟨xs,s _ _ e1,r1.keep (Same.tups s)⟩,⟨bs,s _ _ e2,r2.keep (Same.tups s)⟩⟩
theorem SX.setB {H0 H:Hp}{pp pb:Addr}{bg bg':List Nd}{ps:List (Th ×Th)}{bs':List V}(i:SX H0 H pp pb bg ps)(np:pp≠pb)(hb:H0 pb=none)(r:RepL H (bg'.map Nd.th) bs'):SX H0 (upd H pb (.lst bs')) pp pb bg' ps:=by
 obtain ⟨xs,e1,r1⟩:=i.xs
 obtain ⟨bs,e2,r2⟩:=i.bs
 have tk:Tups H (upd H pb (.lst bs')):=Tups.upd fun xs z=>by rw [e2] at z;cases z
 exact ⟨fun b o e=>by rw [zq (zr e hb)];exact i.sm b o e,⟨xs,by rw [zq np];exact e1,r1.keep tk⟩,⟨_,zf,r.keep tk⟩⟩
theorem SX.setP {H0 H:Hp}{pp pb:Addr}{bg:List Nd}{ps ps':List (Th ×Th)}{xs':List V}(i:SX H0 H pp pb bg ps)(np:pp≠pb)(hb:H0 pp=none)(r:RepL H (ps'.map zZ) xs'):SX H0 (upd H pp (.lst xs')) pp pb bg ps':=by
 obtain ⟨xs,e1,r1⟩:=i.xs
 obtain ⟨bs,e2,r2⟩:=i.bs
 have tk:Tups H (upd H pp (.lst xs')):=Tups.upd fun xs z=>by rw [e1] at z;cases z
 exact ⟨fun b o e=>by rw [zq (zr e hb)];exact i.sm b o e,⟨_,zf,r.keep tk⟩,⟨bs,by rw [zq (Ne.symm np)];exact e2,r2.keep tk⟩⟩
def zbt (C CN CB:Addr):Sp:=fun vs H Q E=>∃(a d:Addr) (cs:List (Int ×Th)) (n:Int) (lo hi:Th) (vl vh:V),vs=[.ref a,.int n,vl,vh]∧VS H C a d cs∧Rep H lo vl∧Rep H hi vh∧dep lo≤3∧
 ((za2 lo hi=true∧∀p H',Same H H'→H p=none→H' p=some (.lst [])→Q (.ref p) H')∨
  (za2 lo hi=false∧∃k res,StW cs lo hi k n [] [] 301 res∧k≤100∧(∀ps,res=.ok ps→∀p xs H',Same H H'→H p=none→H' p=some (.lst xs)→RepL H' (ps.map zZ) xs→Q (.ref p) H')∧(∀b H',res=.error b→Same H H'→E (.ref (exA CN CB b)) none H')))
section
variable {P:Program}{w:World}{K:PySem.W.Frag}{mg:Str→Option Value}{base:Heap}{C CC CN CB:Addr}{x:Str}{t1 t2 t3 t4 t5 t6 t7:Tok}
theorem zfW (D:Dfn K mg "stretch" zee ["vault","root","low","high"]) (F_is_empty:Fn P w K mg base "is_empty" 21 ["low","high"] zfs) (F_node_beneath:FnX P w K mg base "node_beneath" 4 ["vault","root","count"] (zcZ C CN CB)) (F_goes_left:Fn P w K mg base "goes_left" 21 ["node","low"] zho) (F_goes_right:Fn P w K mg base "goes_right" 21 ["node","high"] zg8) (F_refuse_sum:FnX P w K mg base "refuse_sum" 6 ["vault","node"] (zjJ C CN CB)) (F_ahead:Fn P w K mg base "ahead" 20 ["one","other"] (zbo 9))
  (g_KEY:mg "KEY" =some (.int 0 t1)) (g_WORTH:mg "WORTH" =some (.int 1 t2)) (g_LEFT:mg "LEFT" =some (.int 2 t3)) (g_RIGHT:mg "RIGHT" =some (.int 3 t4)) (g_COUNT:mg "COUNT" =some (.int 4 t5)) (g_BENEATH_NONE:mg "BENEATH_NONE" =some (.int 301 t7)) (m_len:mg "len" =none):FnX P w K mg base "stretch" 22 ["vault","root","low","high"] (zbt C CN CB):=by
 refine D.okX (k:=21) zaL (fun vs H Q E h=>?_) (fun f cdv A outer s H vs Q E hr h=>?_)
 ·obtain ⟨a,d,cs,n,lo,hi,vl,vh,rfl,_⟩:=h;rfl
 obtain ⟨a,d,cs,n,lo,hi,vx,vy,rfl,vs,rx,ry,dx,h⟩:=h
 refine ⟨_,(zd (zj (i:=4) zaL.nd rfl (Or.inl rfl) (zM zc))
 (zd (zE (zS (zC F_is_empty hr (by omega) (by rfl) (za (pv 2) (za (pv 3) zc))))
 (ze (zl (pv 4)))
 zu)
 (zd (zj (i:=5) zaL.nd rfl (Or.inl rfl) (zM zc))
 (zd (zj (i:=6) zaL.nd rfl (Or.inl rfl) (zx (v:=.int 301) (by rfl) g_BENEATH_NONE ⟨_,rfl⟩))
 (zd (zdd PassesOwn.leaving (PW.pt (zbS (zw zbu (pv 1) zb (zt _)) (zbx (zw ziD (zF (zI) (by rfl) m_len (by rfl) (za (pv 5) zc)) zb (zt _)))))
 (zd (zE (zw zbu (pv 1) zb (zt _))
 (zd (zj (i:=7) zaL.nd rfl (Or.inl rfl) (zH F_node_beneath hr (by omega) (by rfl) zD (za (pv 0) (za (pv 1) (za (pv 6) zc)))))
 (zd (zE (PW.pt (zfg (zS (zC F_goes_left hr (by omega) (by rfl) (za (pv 7) (za (pv 2) zc)))) (zd1 (zS (zC F_goes_right hr (by omega) (by rfl) (za (pv 7) (za (pv 3) zc)))))))
 (ze (zaC (zH F_refuse_sum hr (by omega) (by rfl) zD (za (pv 0) (za (pv 7) zc)))))
 zu)
 (zd (zaC (zcv PySem.F.plainAttrs_list PySem.F.slot_list_append PySem.F.type_list_append zar (pv 5) (za (pv 7) zc)))
 (ze (zj (i:=1) zaL.nd rfl (Or.inl rfl) (zcE (zS (zC F_goes_left hr (by omega) (by rfl) (za (pv 7) (za (pv 2) zc)))) (zm zA (pv 7) (zx (v:=.int 2) (by rfl) g_LEFT ⟨_,rfl⟩) (fun _ _=>rfl)) zb))))))
 (zd (zj (i:=7) zaL.nd rfl (Or.inl rfl) (zlu PySem.F.plainAttrs_list PySem.F.slot_list_pop PySem.F.type_list_pop zlp (pv 5)))
 (ze (zE (zS (zC F_goes_right hr (by omega) (by rfl) (za (pv 7) (za (pv 3) zc))))
 (zd (zE (PW.pt (zbS (zw za3 (pv 2) zP (zt _)) (zbx (zbs (zS (zC F_ahead hr (by omega) (by rfl) (za (zm zA (pv 7) (zx (v:=.int 0) (by rfl) g_KEY ⟨_,rfl⟩) (fun _ _=>rfl)) (za (pv 2) zc))))))))
 (ze (zaC (zcv PySem.F.plainAttrs_list PySem.F.slot_list_append PySem.F.type_list_append zar (pv 4) (za (zJ (za (zm zA (pv 7) (zx (v:=.int 0) (by rfl) g_KEY ⟨_,rfl⟩) (fun _ _=>rfl)) (za (zm zA (pv 7) (zx (v:=.int 1) (by rfl) g_WORTH ⟨_,rfl⟩) (fun _ _=>rfl)) zc))) zc))))
 zu)
 (ze (zj (i:=1) zaL.nd rfl (Or.inl rfl) (zm zA (pv 7) (zx (v:=.int 3) (by rfl) g_RIGHT ⟨_,rfl⟩) (fun _ _=>rfl)))))
 zu))))
 (ze (zj (i:=6) zaL.nd rfl (Or.inl rfl) (zm zA (pv 7) (zx (v:=.int 4) (by rfl) g_COUNT ⟨_,rfl⟩) (fun _ _=>rfl))))))
 (ze (zl (pv 4)))))))),?_⟩
 refine ⟨szl (show 0≤1000 by decide),fun pp hpp=>?_⟩
 have s1:=zk (o:=.lst []) (Same.refl H) hpp
 have e1:upd H pp (.lst []) pp=some (.lst []):=zf
 generalize upd H pp (.lst [])=H1 at s1 e1
 refine ⟨_,rfl,_,rfl,lo,hi,vx,vy,rfl,rx.keep (Same.tups s1),ry.keep (Same.tups s1),dx,fun H2 s2=>⟨_,rfl,?_⟩⟩
 have s02:Same H H2:=fun b o e=>s2 b o (s1 b o e)
 have e2:=s2 _ _ e1
 rcases h with ⟨he,q⟩ | ⟨he,K0,res,st0,hK,q,qe⟩
 ·rw [he]
  exact ifT rfl ⟨_,rfl,q pp H2 s02 hpp e2⟩
 rw [he]
 refine ifF rfl ?_
 refine ⟨szl (show 0≤1000 by decide),fun pb hpb=>?_⟩
 have s3:=zk (o:=.lst []) (Same.refl H2) hpb
 have e3:upd H2 pb (.lst []) pb=some (.lst []):=zf
 have nb:pp≠pb:=zr e2 hpb
 have hpb0:H pb=none:=by
  cases y:H pb with
  | none=>rfl
  | some o=>rw [s02 _ _ y] at hpb;cases hpb
 generalize upd H2 pb (.lst [])=H3 at s3 e3
 refine ⟨fun m σ H'=>∃(n c:Int) (bg:List Nd) (ps:List (Th ×Th)) (k7:Option V),StW cs lo hi m n bg ps c res∧bg.length+m≤K0∧ps.length+m≤K0∧σ=[some (.ref a),some (.int n),some vx,some vy,some (.ref pp),some (.ref pb),some (.int c),k7]∧SX H H' pp pb bg ps,
  ⟨K0,n,301,[],[],_,st0,by simp,by simp,rfl,⟨fun b o e=>s3 b o (s02 b o e),⟨[],s3 _ _ e2,.nil⟩,⟨[],e3,.nil⟩⟩⟩,?_⟩
 clear st0
 rintro m σ H4 ⟨n,c,bg,ps,k7,st,hb1,hb2,rfl,si⟩
 refine ⟨_,rfl,rfl,_,rfl,?_⟩
 rw [zR]
 have vs4:=vs.same si.sm
 have rx4:=rx.keep (Same.tups si.sm)
 have ry4:=ry.keep (Same.tups si.sm)
 obtain ⟨xs,ex,rxs⟩:=si.xs
 obtain ⟨bs,eb,rbs⟩:=si.bs
 have hxs:xs.length≤100:=by rw [rxs.len,List.length_map];omega
 have hbl:bs.length=bg.length:=by rw [rbs.len,List.length_map]
 rcases st.inv with ⟨hn,ebg,eres⟩ | ⟨hn,b,hb,eres⟩ | ⟨hn,nd,hb,kk,hnd⟩ | ⟨hn,nd,bg',k,ebg,em,kk,st'⟩
 ·refine ifF (by rw [decide_eq_true hn];rfl) ?_
  refine ⟨_,rfl,pb,_,rfl,.inl (SqL.of eb),_,_,rfl,rfl,_,rfl,?_⟩
  refine ifF (by show decide ((0:Int) < ((bs.length:Nat):Int))=false;rw [hbl,ebg];rfl) ?_
  exact ⟨_,rfl,q ps eres pp xs H4 si.sm hpp ex rxs⟩
 ·refine ifT (by rw [decide_eq_false hn];rfl) (ifT rfl ⟨_,fun σ' H' h=>h,?_⟩)
  refine ⟨_,rfl,rfl,_,rfl,?_⟩
  rw [zR]
  refine ifT (by rw [decide_eq_false hn];rfl) ?_
  refine ⟨_,rfl,_,rfl,_,rfl,a,d,cs,n,c,rfl,vs4,fun nd v e _=>(by rw [hb] at e;cases e),fun b' e=>?_⟩
  rw [hb] at e;cases e
  exact qe _ H4 eres si.sm
 ·refine ifT (by rw [decide_eq_false hn];rfl) (ifT rfl ⟨_,fun σ' H' h=>h,?_⟩)
  refine zbj (fun σ H'=>∃(n':Int) (bg':List Nd) (ps':List (Th ×Th)) (m':Nat) (nd:Nd) (v:V),σ=[some (.ref a),some (.int n'),some vx,some vy,some (.ref pp),some (.ref pb),some (.int c),some v]∧SX H H' pp pb bg' ps'∧StW cs lo hi m' n' bg' ps' nd.c res∧m' < m∧bg'.length+m'≤K0∧ps'.length+m'≤K0∧Rep H' nd.th v) (fun N kN=>?_) ?_
  ·refine ⟨_,rfl,rfl,_,rfl,?_⟩
   rw [zR]
   refine ifT (by rw [decide_eq_false hn];rfl) ?_
   refine ⟨_,rfl,_,rfl,_,rfl,a,d,cs,n,c,rfl,vs4,fun nd' v e rn=>?_,fun b' e=>(by rw [hb] at e;cases e)⟩
   rw [hb] at e;cases e
   have kd:=kk.dp
   dsimp only [zaZ]
   refine zbj (fun σ H'=>σ=[some (.ref a),some (.int n),some vx,some vy,some (.ref pp),some (.ref pb),some (.int c),some v]∧Same H4 H'∧∃k,m=k+1∧StW cs lo hi k (if zap lo nd.k=true then nd.l else 0) (bg++ [nd]) ps nd.c res) (fun N2 k2=>?_) ?_
   ·refine ⟨_,rfl,_,rfl,v,vx,nd.k,nd.w,lo,_,_,_,rfl,rn,rx4,dx,fun H5 s5=>⟨_,rfl,?_⟩⟩
    cases z1:zap lo nd.k with
    | false=>
     rcases hnd with ⟨g1,_⟩ | ⟨_,hk⟩
     ·rw [z1] at g1;cases g1
     ·rw [z1] at hk
      rw [z1] at k2
      exact ifF rfl (ifF rfl (k2 _ _ ⟨rfl,s5,hk⟩))
    | true=>
     refine ifT rfl ⟨_,rfl,_,rfl,v,vy,nd.k,nd.w,hi,_,_,_,rfl,rn.keep (Same.tups s5),ry4.keep (Same.tups s5),kd,fun H6 s6=>⟨_,rfl,?_⟩⟩
     have s46:Same H4 H6:=fun b o e=>s6 b o (s5 b o e)
     cases z2:zaB hi nd.k with
     | false=>
      rcases hnd with ⟨_,g2,_⟩ | ⟨_,hk⟩
      ·rw [z2] at g2;cases g2
      ·rw [z1] at hk
       rw [z1] at k2
       exact ifF rfl (k2 _ _ ⟨rfl,s46,hk⟩)
     | true=>
      have s06:Same H H6:=fun b o e=>s46 b o (si.sm b o e)
      refine ifT rfl ⟨_,rfl,_,rfl,a,d,cs,nd,v,rfl,vs4.same s46,rn.keep (Same.tups s46),?_⟩
      rcases hnd with ⟨_,_,b,se,eres⟩ | ⟨so,hk⟩
      ·rcases se with e | ⟨x1,e1,e⟩ | ⟨x1,y1,e1,e,ne,rfl⟩
       ·exact ⟨fun b' e'=>(by rw [e] at e';cases e';exact qe _ H6 eres s06),fun x2 b' e'=>(by rw [e] at e';cases e'),fun x2 y2 e'=>(by rw [e] at e';cases e')⟩
       ·exact ⟨fun b' e'=>(by rw [e1] at e';cases e'),fun x2 b' _ e'=>(by rw [e] at e';cases e';exact qe _ H6 eres s06),fun x2 y2 _ e'=>(by rw [e] at e';cases e')⟩
       ·refine ⟨fun b' e'=>(by rw [e1] at e';cases e'),fun x2 b' _ e'=>(by rw [e] at e';cases e'),fun x2 y2 e' e''=>?_⟩
        rw [e1] at e';cases e'
        rw [e] at e'';cases e''
        exact ⟨fun _=>qe _ H6 eres s06,fun z=>absurd z ne⟩
      ·obtain ⟨x1,y1,e1,e,he1⟩:=so z1 z2
       refine ⟨fun b' e'=>(by rw [e1] at e';cases e'),fun x2 b' _ e'=>(by rw [e] at e';cases e'),fun x2 y2 e' e''=>?_⟩
       rw [e1] at e';cases e'
       rw [e] at e'';cases e''
       rw [z1] at hk
       rw [z1] at k2
       exact ⟨fun z=>absurd he1 z,fun _=>k2 _ _ ⟨rfl,s46,hk⟩⟩
   ·rintro σ H7 ⟨rfl,s7,k,em,st'⟩
    have si7:=si.same s7
    have eb7:=s7 _ _ eb
    have rn7:=rn.keep (Same.tups s7)
    refine ⟨_,rfl,.inl ⟨rfl,_,SqL.of eb7⟩,_,rfl,pb,bs,_,rfl,rfl,eb7,Nat.lt_of_lt_of_le (show bs.length < 1000 by omega) (szl (Nat.le_refl _)),?_⟩
    have si8:=si7.setB (bg':=bg++ [nd]) nb hpb0 (bs':=bs++ [v]) (by rw [List.map_append];exact (rbs.keep (Same.tups s7)).snoc rn7)
    have tk8:Tups H7 (upd H7 pb (.lst (bs++ [v]))):=Tups.upd fun xs z=>by rw [eb7] at z;cases z
    have rn8:=rn7.keep tk8
    have rx8:=(rx4.keep (Same.tups s7)).keep tk8
    generalize upd H7 pb (.lst (bs++ [v]))=H8 at si8 tk8 rn8 rx8
    refine ⟨_,rfl,_,rfl,v,vx,nd.k,nd.w,lo,_,_,_,rfl,rn8,rx8,dx,fun H9 s9=>⟨_,rfl,?_⟩⟩
    have si9:=si8.same s9
    have rn9:=rn8.keep (Same.tups s9)
    have hln:(bg++ [nd]).length=bg.length+1:=by simp
    cases z1:zap lo nd.k with
    | true=>
     rw [z1,if_pos rfl] at st'
     obtain ⟨p,vk,vw,rfl,ea,rk,rw'⟩:=zK rn9
     exact ifT rfl ⟨_,rfl,p,_,_,_,rfl,rfl,SqT.of ea,rfl,kN _ _ ⟨nd.l,_,_,k,nd,_,rfl,si9,st',by omega,by omega,by omega,rn9⟩⟩
    | false=>
     rw [z1,if_neg Bool.false_ne_true] at st'
     exact ifF rfl (kN _ _ ⟨0,_,_,k,nd,_,rfl,si9,st',by omega,by omega,by omega,rn9⟩)
  ·rintro σ H5 ⟨n',bg',ps',m',nd',v,rfl,si',st',hm',h1,h2,rn⟩
   obtain ⟨p,vk,vw,rfl,ea,rk,rw'⟩:=zK rn
   exact ⟨_,rfl,p,_,_,_,rfl,rfl,SqT.of ea,rfl,m',hm',n',_,bg',ps',_,st',h1,h2,rfl,si'⟩
 ·have hn':n=0:=hn
  subst hn'
  refine ifF rfl ?_
  refine ⟨_,rfl,pb,_,rfl,.inl (SqL.of eb),_,_,rfl,rfl,_,rfl,?_⟩
  have hln:(bg'++ [nd]).length=bg'.length+1:=by simp
  rw [ebg] at hbl rbs hb1
  refine ifT (decide_eq_true (show (0:Int) < ((bs.length:Nat):Int) by omega)) ⟨_,fun σ' H' h=>h,?_⟩
  rw [List.map_append] at rbs
  obtain ⟨us,v,rfl,rus,rn⟩:=rbs.unsnoc
  have si5:=si.setB (bg':=bg') nb hpb0 (bs':=us) rus
  have kd:=kk.dp
  refine zbj (fun σ H'=>∃(n':Int) (bg':List Nd) (ps':List (Th ×Th)) (m':Nat) (nd:Nd) (v:V),σ=[some (.ref a),some (.int n'),some vx,some vy,some (.ref pp),some (.ref pb),some (.int c),some v]∧SX H H' pp pb bg' ps'∧StW cs lo hi m' n' bg' ps' nd.c res∧m' < m∧bg'.length+m'≤K0∧ps'.length+m'≤K0∧Rep H' nd.th v) (fun N kN=>?_) ?_
  ·refine ⟨_,rfl,rfl,_,rfl,?_⟩
   rw [zR]
   refine ifF rfl ?_
   refine ⟨_,rfl,.inl ⟨rfl,_,SqL.of eb⟩,pb,_,v,rfl,rfl,eb,by rw [List.length_append,List.getElem?_append_right (by simp)];simp,?_⟩
   rw [List.dropLast_concat]
   have tk5:Tups H4 (upd H4 pb (.lst us)):=Tups.upd fun xs z=>by rw [eb] at z;cases z
   have rn5:=rn.keep tk5
   have rx5:=rx4.keep tk5
   have ry5:=ry4.keep tk5
   generalize upd H4 pb (.lst us)=H5 at si5 tk5 rn5 rx5 ry5
   refine ⟨_,rfl,_,rfl,v,vy,nd.k,nd.w,hi,_,_,_,rfl,rn5,ry5,kd,fun H6 s6=>⟨_,rfl,?_⟩⟩
   have si6:=si5.same s6
   have rn6:=rn5.keep (Same.tups s6)
   have rx6:=rx5.keep (Same.tups s6)
   cases z1:zaB hi nd.k with
   | false=>
    have hin:inB lo hi nd=false:=by unfold inB;rw [z1];rfl
    rw [z1,hin,if_neg Bool.false_ne_true,if_neg Bool.false_ne_true] at st'
    exact ifF rfl (kN _ _ ⟨0,bg',ps,k,nd,v,rfl,si6,st',by omega,by omega,by omega,rn6⟩)
   | true=>
    rw [z1,if_pos rfl] at st'
    refine ifT rfl ?_
    refine zbj (fun σ H'=>∃ps',σ=[some (.ref a),some (.int 0),some vx,some vy,some (.ref pp),some (.ref pb),some (.int c),some v]∧SX H H' pp pb bg' ps'∧Rep H' nd.th v∧StW cs lo hi k nd.r bg' ps' nd.c res∧ps'.length≤ps.length+1) (fun N2 k2=>?_) ?_
    ·obtain ⟨p,vk,vw,rfl,ea,rk,rw'⟩:=zK rn6
     obtain ⟨xs6,ex6,rxs6⟩:=si6.xs
     have hx6:xs6.length≤100:=by rw [rxs6.len,List.length_map];omega
     have hinB:∀b,(decide (lo=.non) || !zh nd.k lo)=b→inB lo hi nd=b:=fun b e=>by unfold inB;rw [z1,e];rfl
     have app:∀(H7:Hp) (s67:Same H6 H7) (h:inB lo hi nd=true) (p2:Addr),H7 p2=none→N2 [some (.ref a),some (.int 0),some vx,some vy,some (.ref pp),some (.ref pb),some (.int c),some (.ref p)] (upd (upd H7 p2 (.tup [vk,vw])) pp (.lst (xs6++ [.ref p2]))):=fun H7 s67 h p2 hp2=>by
      have rp:=(RepL.cons (rk.keep (Same.tups s67)) (.cons (rw'.keep (Same.tups s67)) .nil)).new hp2
      have s78:=zk (o:=.tup [vk,vw]) (Same.refl H7) hp2
      generalize upd H7 p2 (.tup [vk,vw])=H8 at rp s78
      have s68:Same H6 H8:=fun b o e=>s78 b o (s67 b o e)
      have si8:=si6.same s68
      have ex8:=s68 _ _ ex6
      have rxs8:=rxs6.keep (Same.tups s68)
      have tk9:Tups H8 (upd H8 pp (.lst (xs6++ [.ref p2]))):=Tups.upd fun xs z=>by rw [ex8] at z;cases z
      rw [h,if_pos rfl] at st'
      refine k2 _ _ ⟨ps++ [(nd.k,nd.w)],rfl,si8.setP nb hpp ?_,(rn6.keep (Same.tups s68)).keep tk9,st',by simp⟩
      rw [List.map_append]
      exact rxs8.snoc rp
     refine ⟨_,rfl,rfl,_,rfl,?_⟩
     rw [zca rx6]
     cases z2:decide (lo=.non) with
     | true=>
      have hin:=hinB true (by rw [z2];rfl)
      refine ifT rfl (ifT rfl ?_)
      exact ⟨_,rfl,.inl ⟨rfl,_,SqL.of ex6⟩,_,rfl,p,_,_,_,rfl,rfl,SqT.of ea,rfl,_,rfl,p,_,_,_,rfl,rfl,SqT.of ea,rfl,szl (show 2≤1000 by decide),fun p2 hp2=>⟨pp,xs6,_,rfl,rfl,by rw [zq (zr ex6 hp2)];exact ex6,Nat.lt_of_lt_of_le (show xs6.length < 1000 by omega) (szl (Nat.le_refl _)),app H6 (Same.refl _) hin p2 hp2⟩⟩
     | false=>
      refine ifF rfl ⟨_,rfl,p,_,_,_,rfl,rfl,SqT.of ea,rfl,_,rfl,nd.k,lo,_,_,rfl,rk,rx6,by omega,by omega,fun H7 s7=>⟨_,rfl,?_⟩⟩
      have ex7:=s7 _ _ ex6
      have ea7:=s7 _ _ ea
      cases z3:zh nd.k lo with
      | true=>
       have hin:=hinB false (by rw [z2,z3];rfl)
       rw [hin,if_neg Bool.false_ne_true] at st'
       exact ifF rfl (k2 _ _ ⟨ps,rfl,si6.same s7,rn6.keep (Same.tups s7),st',Nat.le_succ _⟩)
      | false=>
       have hin:=hinB true (by rw [z2,z3];rfl)
       refine ifT rfl ?_
       exact ⟨_,rfl,.inl ⟨rfl,_,SqL.of ex7⟩,_,rfl,p,_,_,_,rfl,rfl,SqT.of ea7,rfl,_,rfl,p,_,_,_,rfl,rfl,SqT.of ea7,rfl,szl (show 2≤1000 by decide),fun p2 hp2=>⟨pp,xs6,_,rfl,rfl,by rw [zq (zr ex7 hp2)];exact ex7,Nat.lt_of_lt_of_le (show xs6.length < 1000 by omega) (szl (Nat.le_refl _)),app H7 s7 hin p2 hp2⟩⟩
    ·rintro σ H7 ⟨ps',rfl,si7,rn7,st7,hl7⟩
     obtain ⟨p,vk,vw,rfl,ea,rk,rw'⟩:=zK rn7
     exact ⟨_,rfl,p,_,_,_,rfl,rfl,SqT.of ea,rfl,kN _ _ ⟨nd.r,bg',ps',k,nd,_,rfl,si7,st7,by omega,by omega,by omega,rn7⟩⟩
  ·rintro σ H5 ⟨n',bg'',ps',m',nd',v,rfl,si',st',hm',h1,h2,rn⟩
   obtain ⟨p,vk,vw,rfl,ea,rk,rw'⟩:=zK rn
   exact ⟨_,rfl,p,_,_,_,rfl,rfl,SqT.of ea,rfl,m',hm',n',_,bg'',ps',_,st',h1,h2,rfl,si'⟩
end
end Pv
namespace Pv
open PySem L2
abbrev zc0:Stmt:=top 69
theorem zaj:zv ["cell","way","count","key","worth","far","some","part_of"] ["cell","way","count"] (zg zc0):=⟨rfl,rfl,rfl,by decide+kernel,rfl,by decide+kernel,by decide+kernel⟩
abbrev zcC:Stmt:=top 73
theorem zbq:zv ["cell","way","pairs","k"] ["cell","way"] (zg zcC):=⟨rfl,rfl,rfl,by decide+kernel,rfl,by decide+kernel,by decide+kernel⟩
structure Md (t:Th):Prop where
 wf:Wf t
 dp:dep t≤3
 nd:nodes t≤10
structure Sm (t:Th):Prop where
 wf:Wf t
 dp:dep t≤1
 nd:nodes t≤2
theorem KeyT.md {t:Th}(k:KeyT t):Md t:=⟨k.wf,k.dp,k.nd⟩
theorem zju:Md .non:=⟨trivial,Nat.zero_le _,by show (1:Nat)≤10;decide⟩
theorem zi4:Sm .non:=⟨trivial,Nat.zero_le _,by show (1:Nat)≤2;decide⟩
theorem zbN {i:Int}(h0: -(10 ^ 30)≤i)(h1:i≤10 ^ 30):Sm (.int i):=⟨⟨h0,h1⟩,Nat.zero_le _,by show (1:Nat)≤2;decide⟩
theorem ziT {x:Str}(h:zfX x):Sm (.str x):=⟨h,Nat.zero_le _,by show (1:Nat)≤2;decide⟩
theorem zjh {i:Int}(h0: -(10 ^ 30)≤i)(h1:i≤10 ^ 30):Sm (.tup [.int i]):=⟨⟨by show (1:Nat)≤40;decide,⟨h0,h1⟩,trivial⟩,by show (1:Nat)≤1;decide,by show (2:Nat)≤2;decide⟩
theorem zd5 {k w p q r:Th}(hk:Md k)(hw:Md w)(hp:Sm p)(hq:Sm q)(hr:Sm r):Good (.tup [k,w,p,q,r]):=by
 refine ⟨⟨by show (5:Nat)≤40;decide,hk.wf,hw.wf,hp.wf,hq.wf,hr.wf,trivial⟩,?_,?_⟩
 ·have:=hk.dp;have:=hw.dp;have:=hp.dp;have:=hq.dp;have:=hr.dp
  show max (dep k) (max (dep w) (max (dep p) (max (dep q) (max (dep r) 0))))+1≤8
  omega
 ·have:=hk.nd;have:=hw.nd;have:=hp.nd;have:=hq.nd;have:=hr.nd
  show 1+(nodes k+(nodes w+(nodes p+(nodes q+(nodes r+0)))))≤80
  omega
def zdG (cnt:Int)(t:Th):Prop:=Good t∧BadB cnt t∧(BadB 301 t∨∃ts,t=.tup ts∧ts.length=5∧(ts[4]? =some (.int cnt)∨ts[4]? =some (.int 300)))
theorem zaQ {cnt:Int}{t:Th}(g:Good t)(h:isN t=false):zdG cnt t:=⟨g,zci h,.inl (zci h)⟩
theorem zmw {k w p q r:Th}(h:isR p=false):isN (.tup [k,w,p,q,r])=false:=by
 show (_ && (_ && (isR p && _)))=false
 rw [h];simp
theorem zmL {k w p q r:Th}(h:isR q=false):isN (.tup [k,w,p,q,r])=false:=by
 show (_ && (_ && (_ && (isR q && _))))=false
 rw [h];simp
theorem zmH {k w p q r:Th}(h:zeL r=false):isN (.tup [k,w,p,q,r])=false:=by
 show (_ && (_ && (_ && (_ && zeL r))))=false
 rw [h];simp
theorem zgi {cnt c:Int}{k w:Th}(hk:KeyT k)(hw:KeyT w)(c0:0≤c)(c3:c≤300)(h:cnt≤c)(e:c=cnt∨c=300):zdG cnt (.tup [k,w,.int 0,.int 0,.int c]):=by
 refine ⟨zd5 hk.md hw.md (zbN (by decide) (by decide)) (zbN (by decide) (by decide)) (zbN (by omega) (by omega)),fun nd e' _=>?_,.inr ⟨_,rfl,rfl,?_⟩⟩
 ·cases nd with | mk a1 a2 a3 a4 a5=>
  cases e'
  exact h
 ·rcases e with e | e
  ·exact .inl (by rw [e];rfl)
  ·exact .inr (by rw [e];rfl)
theorem mkT {H:Hp}{p:Addr}{ts:List Th}{vs:List V}(r:RepL H ts vs)(hp:H p=none):∃G,upd H p (.tup vs)=G∧Same H G∧Rep G (.tup ts) (.ref p):=⟨_,rfl,zk (Same.refl H) hp,r.new hp⟩
theorem mkLs {H:Hp}{p:Addr}{vs:List V}(hp:H p=none):∃G,upd H p (.lst vs)=G∧Same H G∧G p=some (.lst vs):=⟨_,rfl,zk (Same.refl H) hp,zf⟩
structure NL (H0 H:Hp)(cnt:Int)(p:Addr)(n:Nat):Prop where
 sm:Same H0 H
 ex:∃xs ts,H p=some (.lst xs)∧RepL H ts xs∧(∀t∈ts,zdG cnt t)∧ts.length=n
theorem NL.same {H0 H H':Hp}{cnt:Int}{p:Addr}{n:Nat}(i:NL H0 H cnt p n)(s:Same H H'):NL H0 H' cnt p n:=by
 obtain ⟨xs,ts,e,r,a,l⟩:=i.ex
 exact ⟨i.sm.trans s,xs,ts,s _ _ e,r.keep (Same.tups s),a,l⟩
theorem RepL.appN {H:Hp}:∀{ts us:List Th} {vs ws:List V},RepL H ts vs→RepL H us ws→RepL H (ts++us) (vs++ws)
 | _,_,_,_,.nil,r=>r
 | _,_,_,_,.cons h q,r=>.cons h (RepL.appN q r)
def zgH:Sp:=fun vs H Q _=>∃(c m cnt:Int),vs=[.int c,.int m,.int cnt]∧2≤cnt∧cnt≤300∧∀t v H',Same H H'→Rep H' t v→zdG cnt t→Q v H'
def zfD:Sp:=fun vs H Q _=>∃(c m:Int),vs=[.int c,.int m]∧∀p ps H',Same H H'→PL H' p ps→Srt ps→zjz ps→ps.length≤3→(∀z∈ps,∃i:Int,z.2=.int i)→Q (.ref p) H'
section
variable {P:Program}{w:World}{K:PySem.W.Frag}{mg:Str→Option Value}{base:Heap}{C CC CN CB:Addr}{x:Str}{t1 t2 t3 t4 t5 t6 t7:Tok}
theorem zjI (D:Dfn K mg "_law_three" zcC ["cell","way"]) (F_law_key:Fn P w K mg base "_law_key" 3 ["cell","way"] zeM) (F_law_put_in:Fn P w K mg base "_law_put_in" 12 ["pairs","key","worth"] zhg) (m_range:mg "range" =none):Fn P w K mg base "_law_three" 13 ["cell","way"] zfD:=by
 refine D.ok (k:=12) zbq (fun vs H Q E h=>?_) (fun f cdv A outer s H vs Q E hr h=>?_)
 ·obtain ⟨c,m,rfl,_⟩:=h;rfl
 obtain ⟨c,m,rfl,q⟩:=h
 refine ⟨_,(zd (zj (i:=2) zbq.nd rfl (Or.inl rfl) (zM zc))
 (zd (zaA PassesOwn.never rfl (za6 rfl m_range (za zb zc)) (z7 (i:=3) zbq.nd rfl (Or.inl rfl))
 (ze (zj (i:=2) zbq.nd rfl (Or.inl rfl) (zC F_law_put_in hr (by omega) (by rfl) (za (pv 2) (za (zC F_law_key hr (by omega) (by rfl) (za (zo zO (pv 0) (pv 3)) (za (pv 1) zc))) (za (zo zO (pv 3) zb) zc)))))))
 (ze (zl (pv 2))))),?_⟩
 refine ⟨szl (show 0≤1000 by decide),fun p0 hp0=>?_⟩
 have s0:=zk (o:=.lst []) (Same.refl H) hp0
 have e0:upd H p0 (.lst []) p0=some (.lst []):=zf
 generalize upd H p0 (.lst [])=H0 at s0 e0
 refine ⟨3,rfl,by decide,by decide,?_⟩
 refine za8 (n:=3) (fun i σ H'=>∃(p:Addr) (ps:List (Th ×Th)) (k3:Option V),σ=[some (.int c),some (.int m),some (.ref p),k3]∧Same H H'∧PL H' p ps∧Srt ps∧zjz ps∧ps.length≤i∧(∀z∈ps,∃i:Int,z.2=.int i)) ⟨p0,[],_,rfl,s0,⟨[],e0,.nil⟩,List.Pairwise.nil,fun p h=>(nomatch h),Nat.le_refl _,fun z h=>(nomatch h)⟩ ?_ ?_
 ·rintro i σ H1 hi ⟨p,ps,k3,rfl,s1,pl,so,kp,hl,hw⟩
  rw [Int.zero_add]
  refine ⟨_,rfl,_,rfl,_,rfl,_,_,rfl,rfl,_,rfl,_,m,rfl,fun t v H2 s2 rt kt=>?_⟩
  have kw:KeyT (.int ((i:Int)+1)):=zbe (by omega) (by omega)
  refine ⟨_,rfl,_,_,rfl,rfl,p,ps,t,.int ((i:Int)+1),v,_,rfl,pl.same s2,so,kp,by omega,rt,kt,.int _,fun p' H3 s3 _ pl'=>?_⟩
  have hlen:=zkd (ps:=ps) (x:=t) (w:=.int ((i:Int)+1))
  refine ⟨p',_,_,rfl,(s1.trans s2).trans s3,pl',zkJ so,fun z hz=>?_,by omega,fun z hz=>?_⟩
  ·rcases zg9 hz with h | rfl
   ·exact kp z h
   ·exact ⟨kt,kw⟩
  ·rcases zg9 hz with h | rfl
   ·exact hw z h
   ·exact ⟨_,rfl⟩
 ·rintro σ H1 ⟨p,ps,k3,rfl,s1,pl,so,kp,hl,hw⟩
  exact ⟨_,rfl,q p ps H1 s1 pl so kp hl hw⟩
seal PE PS PSs PT PA PI PTs PW PG PGs PO
theorem zkR (D:Dfn K mg "_law_none" zc0 ["cell","way","count"]) (F_law_key:Fn P w K mg base "_law_key" 3 ["cell","way"] zeM) (F_law_worth:Fn P w K mg base "_law_worth" 3 ["cell","way"] zeM) (F_law_mix:Fn P w K mg base "_law_mix" 1 ["cell","k"] zeI) (m_len:mg "len" =none):Fn P w K mg base "_law_none" 4 ["cell","way","count"] zgH:=by
 refine D.ok (k:=3) zaj (fun vs H Q E h=>?_) (fun f cdv A outer s H vs Q E hr h=>?_)
 ·obtain ⟨c,m,cnt,rfl,_⟩:=h;rfl
 obtain ⟨c,m,cnt,rfl,c2,c3,q⟩:=h
 refine ⟨_,(zd (zj (i:=3) zaj.nd rfl (Or.inr rfl) (zC F_law_key hr (by omega) (by rfl) (za (zo zaG (pv 0) zb) (za (pv 1) zc))))
 (zd (zj (i:=4) zaj.nd rfl (Or.inr rfl) (zC F_law_worth hr (by omega) (by rfl) (za (zo zaG (pv 0) zb) (za (pv 1) zc))))
 (zd (zj (i:=5) zaj.nd rfl (Or.inl rfl) (zo z8 (zC F_law_mix hr (by omega) (by rfl) (za (pv 0) (za zb zc))) (zo zaN zb zb)))
 (zd (zj (i:=6) zaj.nd rfl (Or.inl rfl) (zM (za zP (za (pv 5) (za zah (za (zJ (za (pv 3) (za (pv 4) (za zb (za zb zc))))) (za (zJ (za (pv 3) (za (pv 4) (za zb (za zb (za zb (za zb zc))))))) (za (zJ (za zP (za (pv 4) (za zb (za zb (za zb zc)))))) zc))))))))
 (zd (zaC (zcv PySem.F.plainAttrs_list PySem.F.slot_list_append PySem.F.type_list_append zar (pv 6) (za (zJ (za (pv 3) (za zP (za zb (za zb (za zb zc)))))) zc)))
 (zd (zaA PassesOwn.never rfl (zeu (zJ (za zP (za (zo za0 (zdn zb6 zb) (pv 5)) (za zah (za (zJ (za zb zc)) zc)))))) (z7 (i:=7) zaj.nd rfl (Or.inl rfl))
 (ze (zj (i:=6) zaj.nd rfl (Or.inl rfl) (zo zbk (pv 6) (zM (za (zJ (za (pv 3) (za (pv 4) (za (pv 7) (za zb (za zb zc)))))) (za (zJ (za (pv 3) (za (pv 4) (za zb (za (pv 7) (za zb zc)))))) zc)))))))
 (zd (zj (i:=6) zaj.nd rfl (Or.inl rfl) (zo zbk (pv 6) (zdj (zX.two (y1:= "worth") (y2:= "key") (j1:=4) (j2:=3) (c1:=s.heap.objs.size+2) (c2:=s.heap.objs.size+1) (by rfl) (by rfl) (by decide+kernel) (by decide+kernel) (by rfl) (by decide+kernel) (by decide+kernel) (by decide+kernel) (by rfl) (by rfl) (by decide+kernel) (by rfl) (by rfl) (by first | exact Or.inl rfl | exact Or.inr rfl) (by first | exact Or.inl rfl | exact Or.inr rfl) (by first | exact Or.inl rfl | exact Or.inr rfl) (by first | exact Or.inl rfl | exact Or.inr rfl)) rfl (zeu (zJ (za zb (za (zo za0 (zdn zb6 zb) (pv 5)) (za (zo zO zb (pv 5)) (za zP (za zah (za (zJ (za zb zc)) zc)))))))) (fun _ _ _=>zcL) (fun _ _ _=>(zJ (za (pv 2) (za (pv 1) (za zb (za zb (za (pv 0) zc))))))))))
 (zd (zj (i:=6) zaj.nd rfl (Or.inl rfl) (zo zbk (pv 6) (zM (za (zJ (za (pv 3) (za (pv 4) (za zb (za zb (za (pv 2) zc)))))) (za (zJ (za (pv 3) (za (pv 4) (za zb (za zb (za zb zc)))))) zc)))))
 (ze (zl (zm zB (pv 6) (zo z8 (zC F_law_mix hr (by omega) (by rfl) (za (pv 0) (za zb zc))) (zF (zI) (by rfl) m_len (by rfl) (za (pv 6) zc))) (fun _ _=>rfl)))))))))))),?_⟩
 have e6:(10:Int) ^ (6:Int).toNat=1000000:=by decide+kernel
 refine ⟨_,rfl,_,_,rfl,rfl,⟨by decide,by decide+kernel⟩,_,rfl,_,m,rfl,fun k vk H1 s1 rk1 kk=>?_⟩
 refine ⟨_,rfl,_,_,rfl,rfl,⟨by decide,by decide+kernel⟩,_,rfl,_,m,rfl,fun wo vw H2 s2 rw2 kw=>?_⟩
 have rk2:=rk1.keep (Same.tups s2)
 have s02:Same H H2:=s1.trans s2
 refine ⟨_,rfl,c,60,rfl,by decide,by decide,fun mx mx0 mx1=>?_⟩
 refine ⟨_,_,rfl,rfl,⟨by decide,by decide,by decide⟩,_,_,rfl,rfl,(show (0:Int) < (10:Int) ^ (6:Int).toNat by rw [e6];decide),?_⟩
 have f0:0≤mx % (10:Int) ^ (6:Int).toNat:=by rw [e6];exact Int.emod_nonneg _ (by decide)
 have f1:mx % (10:Int) ^ (6:Int).toNat < 1000000:=by rw [e6];exact Int.emod_lt_of_pos _ (by decide)
 show zaZ 5 (V.int (mx % (10:Int) ^ (6:Int).toNat)) _ _ _
 generalize mx % (10:Int) ^ (6:Int).toNat=far at f0 f1
 have i0:Sm (.int 0):=zbN (by decide) (by decide)
 have i1:Sm (.int 1):=zbN (by decide) (by decide)
 refine ⟨_,rfl,_,rfl,_,rfl,szl (show 4≤1000 by decide),fun p4 h4=>?_⟩
 obtain ⟨G4,eG,sa,r4⟩:=mkT (.cons rk2 (.cons rw2 (.cons (.int 0) (.cons (.int 0) .nil)))) h4
 rw [eG];clear eG
 refine ⟨_,rfl,_,rfl,szl (show 6≤1000 by decide),fun p6 h6=>?_⟩
 obtain ⟨G6,eG,sb,r6⟩:=mkT (.cons (rk2.keep (Same.tups sa)) (.cons (rw2.keep (Same.tups sa)) (.cons (.int 0) (.cons (.int 0) (.cons (.int 1) (.cons (.int 1) .nil)))))) h6
 rw [eG];clear eG
 refine ⟨_,rfl,szl (show 5≤1000 by decide),fun p5 h5=>?_⟩
 have sab:=sa.trans sb
 obtain ⟨G5,eG,sc,r5⟩:=mkT (.cons .non (.cons (rw2.keep (Same.tups sab)) (.cons (.int 0) (.cons (.int 0) (.cons (.int 1) .nil))))) h5
 rw [eG];clear eG
 refine ⟨szl (show 6≤1000 by decide),fun ps hps=>?_⟩
 obtain ⟨G7,eG,sd,e7⟩:=mkLs (vs:=[.non,.int far,.str ("node" :Str),.ref p4,.ref p6,.ref p5]) hps
 rw [eG];clear eG
 have sac:=sab.trans sc
 have s27:Same H2 G7:=sac.trans sd
 have s07:Same H G7:=s02.trans s27
 have rl7:RepL G7 [.non,.int far,.str ("node" :Str),.tup [k,wo,.int 0,.int 0],.tup [k,wo,.int 0,.int 0,.int 1,.int 1],.tup [.non,wo,.int 0,.int 0,.int 1]] [.non,.int far,.str ("node" :Str),.ref p4,.ref p6,.ref p5]:=
  .cons .non (.cons (.int _) (.cons (.str _) (.cons (r4.keep (Same.tups (sb.trans (sc.trans sd)))) (.cons (r6.keep (Same.tups (sc.trans sd))) (.cons (r5.keep (Same.tups sd)) .nil)))))
 have kdp:=kk.dp
 have knd:=kk.nd
 have wdp:=kw.dp
 have wnd:=kw.nd
 have g0:Good (.non):=⟨trivial,Nat.zero_le _,by show (1:Nat)≤80;decide⟩
 have gf:Good (.int far):=⟨⟨by omega,by omega⟩,Nat.zero_le _,by show (1:Nat)≤80;decide⟩
 have gs:Good (.str ("node" :Str)):=⟨⟨by decide+kernel,by decide+kernel⟩,Nat.zero_le _,by show (1:Nat)≤80;decide⟩
 have g4:Good (.tup [k,wo,.int 0,.int 0]):=⟨⟨by show (4:Nat)≤40;decide,kk.wf,kw.wf,i0.wf,i0.wf,trivial⟩,by show max (dep k) (max (dep wo) (max 0 (max 0 0)))+1≤8;omega,by show 1+(nodes k+(nodes wo+(1+(1+0))))≤80;omega⟩
 have g6:Good (.tup [k,wo,.int 0,.int 0,.int 1,.int 1]):=⟨⟨by show (6:Nat)≤40;decide,kk.wf,kw.wf,i0.wf,i0.wf,i1.wf,i1.wf,trivial⟩,by show max (dep k) (max (dep wo) (max 0 (max 0 (max 0 (max 0 0)))))+1≤8;omega,by show 1+(nodes k+(nodes wo+(1+(1+(1+(1+0))))))≤80;omega⟩
 refine ⟨_,rfl,.inl ⟨rfl,_,SqL.of e7⟩,_,rfl,szl (show 5≤1000 by decide),fun p8 h8=>?_⟩
 obtain ⟨G8,eG,se,r8⟩:=mkT (.cons (rk2.keep (Same.tups s27)) (.cons .non (.cons (.int 0) (.cons (.int 0) (.cons (.int 1) .nil))))) h8
 rw [eG];clear eG
 have e8:=se _ _ e7
 refine ⟨ps,_,_,rfl,rfl,e8,Nat.lt_of_lt_of_le (show (6:Nat) < 1000 by decide) (szl (Nat.le_refl _)),?_⟩
 have hps0:H2 ps=none:=by
  cases y:H2 ps with
  | none=>rfl
  | some o=>rw [sac _ _ y] at hps;cases hps
 have tk9:Tups G8 (upd G8 ps (.lst ([.non,.int far,.str ("node" :Str),.ref p4,.ref p6,.ref p5]++ [.ref p8]))):=Tups.upd fun xs z=>by rw [e8] at z;cases z
 have s29:Same H2 (upd G8 ps (.lst ([.non,.int far,.str ("node" :Str),.ref p4,.ref p6,.ref p5]++ [.ref p8]))):=zaw (s27.trans se) hps0
 have e9:upd G8 ps (.lst ([.non,.int far,.str ("node" :Str),.ref p4,.ref p6,.ref p5]++ [.ref p8])) ps=some (.lst ([.non,.int far,.str ("node" :Str),.ref p4,.ref p6,.ref p5]++ [.ref p8])):=zf
 have rl9:=((rl7.keep (Same.tups se)).snoc r8).keep tk9
 generalize upd G8 ps (.lst ([.non,.int far,.str ("node" :Str),.ref p4,.ref p6,.ref p5]++ [.ref p8]))=G9 at tk9 s29 e9 rl9
 have nl9:NL H2 G9 cnt ps 7:=by
  refine ⟨s29,_,_,e9,rl9,?_,rfl⟩
  intro t ht
  simp only [List.cons_append,List.nil_append,List.mem_cons,List.not_mem_nil,or_false] at ht
  rcases ht with h | h | h | h | h | h | h <;> subst h
  ·exact zaQ g0 rfl
  ·exact zaQ gf rfl
  ·exact zaQ gs rfl
  ·exact zaQ g4 rfl
  ·exact zaQ g6 rfl
  ·exact zaQ (zd5 zju kw.md i0 i0 i1) rfl
  ·refine zaQ (zd5 kk.md zju i0 i0 i1) ?_
   show (_ && (!decide (Th.non=.non) && _))=false
   simp
 clear rl9 e9 tk9 rl7 e7 e8
 refine ⟨_,rfl,_,rfl,_,_,rfl,rfl,szl (show 1≤1000 by decide),fun q0 hq0=>?_⟩
 obtain ⟨Ga,eG,sf,ra⟩:=mkT (.cons (.int 0) .nil) hq0
 rw [eG];clear eG
 refine ⟨szl (show 4≤1000 by decide),fun qt hqt=>?_⟩
 have sg:=zk (o:=.tup [.non,.int (-1 - far),.str ("0" :Str),.ref q0]) (Same.refl Ga) hqt
 have eqt:upd Ga qt (.tup [.non,.int (-1 - far),.str ("0" :Str),.ref q0]) qt=some (.tup [.non,.int (-1 - far),.str ("0" :Str),.ref q0]):=zf
 generalize upd Ga qt (.tup [.non,.int (-1 - far),.str ("0" :Str),.ref q0])=Gb at sg eqt
 have nlb:=nl9.same (sf.trans sg)
 have s9b:=sf.trans sg
 refine ⟨qt,rfl,⟨_,SqT.of eqt⟩,?_⟩
 refine ze8 (xs:=[.non,.int (-1 - far),.str ("0" :Str),.ref q0]) (fun i σ H'=>∃(pp:Addr) (k7:Option V),σ=[some (.int c),some (.int m),some (.int cnt),some vk,some vw,some (.int far),some (.ref pp),k7]∧Same Gb H'∧NL H2 H' cnt pp (7+2 * i)) ⟨ps,_,rfl,Same.refl _,nlb⟩ ?_ ?_ ?_
 ·rintro i σ H' _ ⟨pp,k7,rfl,sm,_⟩
  exact SqT.of (sm _ _ eqt)
 ·rintro i y σ H' hy ⟨pp,k7,rfl,sm,nl⟩
  obtain ⟨xs,ts,ex,rx,all,hlen⟩:=nl.ex
  have key:∃u,Rep H' u y∧Sm u∧isR u=false:=by
   match i,hy with
   | 0,hy=>cases hy;exact ⟨_,.non,zi4,rfl⟩
   | 1,hy=>cases hy;exact ⟨_,.int _,zbN (by omega) (by omega),decide_eq_false (by omega)⟩
   | 2,hy=>cases hy;exact ⟨_,.str _,ziT ⟨by decide+kernel,by decide+kernel⟩,rfl⟩
   | 3,hy=>cases hy;exact ⟨_,ra.keep (Same.tups (sg.trans sm)),zjh (by decide) (by decide),rfl⟩
   | n+4,hy=>cases hy
  have hi4:i < 4:=(List.getElem?_eq_some_iff.mp hy).1
  obtain ⟨u,ru,su,hu⟩:=key
  have rk':=rk2.keep (Same.tups nl.sm)
  have rw':=rw2.keep (Same.tups nl.sm)
  refine ⟨_,rfl,_,rfl,_,rfl,_,rfl,szl (show 5≤1000 by decide),fun x1 hx1=>?_⟩
  obtain ⟨J1,eG,t1',r1⟩:=mkT (.cons rk' (.cons rw' (.cons ru (.cons (.int 0) (.cons (.int 1) .nil))))) hx1
  rw [eG];clear eG
  refine ⟨_,rfl,_,rfl,_,rfl,szl (show 5≤1000 by decide),fun x2 hx2=>?_⟩
  obtain ⟨J2,eG,t2',r2⟩:=mkT (.cons (rk'.keep (Same.tups t1')) (.cons (rw'.keep (Same.tups t1')) (.cons (.int 0) (.cons (ru.keep (Same.tups t1')) (.cons (.int 1) .nil))))) hx2
  rw [eG];clear eG
  refine ⟨szl (show 2≤1000 by decide),fun x3 hx3=>?_⟩
  obtain ⟨J3,eG,t3',e3⟩:=mkLs (vs:=[.ref x1,.ref x2]) hx3
  rw [eG];clear eG
  have t13:=(t1'.trans t2').trans t3'
  have hxl:xs.length=ts.length:=rx.len
  refine ⟨pp,x3,_,_,rfl,rfl,t13 _ _ ex,e3,szl (by show _+2≤1000;omega),fun x4 hx4=>?_⟩
  obtain ⟨J4,eG,t4',e4⟩:=mkLs (vs:=xs++ [.ref x1,.ref x2]) hx4
  rw [eG];clear eG
  have t14:=t13.trans t4'
  refine ⟨x4,_,rfl,sm.trans t14,nl.sm.trans t14,_,ts++ [_,_],e4,RepL.appN (rx.keep (Same.tups t14)) (.cons (r1.keep (Same.tups ((t2'.trans t3').trans t4'))) (.cons (r2.keep (Same.tups (t3'.trans t4'))) .nil)),fun t ht=>?_,by rw [List.length_append,hlen];show 7+2 * i+2=7+2 * (i+1);omega⟩
  rcases List.mem_append.mp ht with ht | ht
  ·exact all t ht
  ·simp only [List.mem_cons,List.not_mem_nil,or_false] at ht
   rcases ht with h | h <;> subst h
   ·exact zaQ (zd5 kk.md kw.md su i0 i1) (zmw hu)
   ·exact zaQ (zd5 kk.md kw.md i0 su i1) (zmL hu)
 ·rintro σ H' ⟨pp,k7,rfl,sm,nl⟩
  have nl15:NL H2 H' cnt pp 15:=nl
  clear nl
  refine ⟨_,rfl,_,rfl,_,rfl,_,_,rfl,rfl,_,rfl,_,_,rfl,rfl,szl (show 1≤1000 by decide),fun y0 hy0=>?_⟩
  obtain ⟨J0,eG,u0,ry0⟩:=mkT (.cons (.int 1) .nil) hy0
  rw [eG];clear eG
  refine ⟨szl (show 6≤1000 by decide),fun yt hyt=>?_⟩
  have u1:=zk (o:=.tup [.int 0,.int (-1 - far),.int (301+far),.non,.str ("1" :Str),.ref y0]) (Same.refl J0) hyt
  have eyt:upd J0 yt (.tup [.int 0,.int (-1 - far),.int (301+far),.non,.str ("1" :Str),.ref y0]) yt=some (.tup [.int 0,.int (-1 - far),.int (301+far),.non,.str ("1" :Str),.ref y0]):=zf
  generalize upd J0 yt (.tup [.int 0,.int (-1 - far),.int (301+far),.non,.str ("1" :Str),.ref y0])=J1 at u1 eyt
  have nlJ:=nl15.same (u0.trans u1)
  refine ⟨yt,rfl,⟨_,SqT.of eyt⟩,fun pz hpz=>?_⟩
  refine zcS (n:=6) (fun i acc H''=>Same J1 H''∧H'' pz=some (.lst acc)∧∃ts,RepL H'' ts acc∧(∀t∈ts,zdG cnt t)∧ts.length=i) ⟨zk (Same.refl J1) hpz,zf,[],.nil,fun t h=>(nomatch h),rfl⟩ ?_ ?_ ?_ ?_
  ·rintro i acc H'' hi ⟨sm',ez,_⟩
   exact ⟨_,_,SqT.of (sm' _ _ eyt),List.getElem?_eq_getElem hi⟩
  ·rintro acc H'' ⟨sm',ez,_⟩
   exact ⟨_,SqT.of (sm' _ _ eyt),Nat.le_refl _⟩
  ·rintro i acc H'' y H3 hi ⟨sm',ez,ts,rt,all,hl⟩ ⟨z1,z2⟩
   subst z1
   have ey:=z2 _ (SqT.of (sm' _ _ eyt))
   have key:∃u,Rep H3 u y∧Sm u∧zeL u=false:=by
    match i,ey with
    | 0,ey=>cases ey;exact ⟨_,.int _,i0,rfl⟩
    | 1,ey=>cases ey;exact ⟨_,.int _,zbN (by omega) (by omega),by show (decide _ && _)=false;rw [decide_eq_false (by omega)];rfl⟩
    | 2,ey=>cases ey;exact ⟨_,.int _,zbN (by omega) (by omega),by show (_ && decide _)=false;rw [decide_eq_false (show¬301+far≤300 by omega),Bool.and_false]⟩
    | 3,ey=>cases ey;exact ⟨_,.non,zi4,rfl⟩
    | 4,ey=>cases ey;exact ⟨_,.str _,ziT ⟨by decide+kernel,by decide+kernel⟩,rfl⟩
    | 5,ey=>cases ey;exact ⟨_,ry0.keep (Same.tups (u1.trans sm')),zjh (by decide) (by decide),rfl⟩
   obtain ⟨u,ru,su,hu⟩:=key
   have rk':=rk2.keep (Same.tups (nlJ.same sm').sm)
   have rw':=rw2.keep (Same.tups (nlJ.same sm').sm)
   refine tt1 ?_
   refine ⟨_,rfl,_,rfl,_,rfl,szl (show 5≤1000 by decide),fun x1 hx1=>?_⟩
   obtain ⟨L1,eG,t1',r1⟩:=mkT (.cons rk' (.cons rw' (.cons (.int 0) (.cons (.int 0) (.cons ru .nil))))) hx1
   rw [eG];clear eG
   have ez1:=t1' _ _ ez
   have hal:acc.length=i:=by rw [rt.len,hl]
   refine ⟨ez1,Nat.lt_of_lt_of_le (show acc.length < 1000 by omega) (szl (Nat.le_refl _)),nxt hi ?_⟩
   have tk:Tups L1 (upd L1 pz (.lst (acc++ [.ref x1]))):=Tups.upd fun xs z=>by rw [ez1] at z;cases z
   refine ⟨zaw (sm'.trans t1') hpz,zf,ts++ [_],((rt.keep (Same.tups t1')).keep tk).snoc (r1.keep tk),fun t ht=>?_,by rw [List.length_append,hl];rfl⟩
   rcases List.mem_append.mp ht with ht | ht
   ·exact all t ht
   ·rw [List.mem_singleton.mp ht]
    exact zaQ (zd5 kk.md kw.md i0 i0 su) (zmH hu)
  ·rintro acc H3 ⟨sm',ez,ts6,rt6,all6,hl6⟩
   have nl3:=nlJ.same sm'
   obtain ⟨xs,ts,ex,rx,all,hlen⟩:=nl3.ex
   have hxl:xs.length=15:=by rw [rx.len,hlen]
   have hal:acc.length=6:=by rw [rt6.len,hl6]
   refine ⟨pp,pz,_,_,rfl,rfl,ex,ez,szl (by omega),fun x4 hx4=>?_⟩
   obtain ⟨L4,eG,t4',e4⟩:=mkLs (vs:=xs++acc) hx4
   rw [eG];clear eG
   have nl21:NL H2 L4 cnt x4 21:=⟨nl3.sm.trans t4',_,ts++ts6,e4,RepL.appN (rx.keep (Same.tups t4')) (rt6.keep (Same.tups t4')),fun t ht=>(List.mem_append.mp ht).elim (all t) (all6 t),by rw [List.length_append,hlen,hl6]⟩
   clear rx rt6 all all6 ex ez e4
   obtain ⟨xs,ts,ex,rx,all,hlen⟩:=nl21.ex
   have rk':=rk2.keep (Same.tups nl21.sm)
   have rw':=rw2.keep (Same.tups nl21.sm)
   refine ⟨_,rfl,_,rfl,_,rfl,_,rfl,szl (show 5≤1000 by decide),fun x1 hx1=>?_⟩
   obtain ⟨M1,eG,t1',r1⟩:=mkT (.cons rk' (.cons rw' (.cons (.int 0) (.cons (.int 0) (.cons (.int cnt) .nil))))) hx1
   rw [eG];clear eG
   refine ⟨_,rfl,_,rfl,szl (show 5≤1000 by decide),fun x2 hx2=>?_⟩
   obtain ⟨M2,eG,t2',r2⟩:=mkT (.cons (rk'.keep (Same.tups t1')) (.cons (rw'.keep (Same.tups t1')) (.cons (.int 0) (.cons (.int 0) (.cons (.int 300) .nil))))) hx2
   rw [eG];clear eG
   refine ⟨szl (show 2≤1000 by decide),fun x3 hx3=>?_⟩
   obtain ⟨M3,eG,t3',e3⟩:=mkLs (vs:=[.ref x1,.ref x2]) hx3
   rw [eG];clear eG
   have t13:=(t1'.trans t2').trans t3'
   have hxl:xs.length=ts.length:=rx.len
   refine ⟨x4,x3,_,_,rfl,rfl,t13 _ _ ex,e3,szl (by show _+2≤1000;omega),fun x5 hx5=>?_⟩
   obtain ⟨M4,eG,t5',e5⟩:=mkLs (vs:=xs++ [.ref x1,.ref x2]) hx5
   rw [eG];clear eG
   have t15:=t13.trans t5'
   have rl:RepL M4 (ts++ [.tup [k,wo,.int 0,.int 0,.int cnt],.tup [k,wo,.int 0,.int 0,.int 300]]) (xs++ [.ref x1,.ref x2]):=RepL.appN (rx.keep (Same.tups t15)) (.cons (r1.keep (Same.tups ((t2'.trans t3').trans t5'))) (.cons (r2.keep (Same.tups (t3'.trans t5'))) .nil))
   have hall:∀t∈ts++ [.tup [k,wo,.int 0,.int 0,.int cnt],.tup [k,wo,.int 0,.int 0,.int 300]],zdG cnt t:=fun t ht=>by
    rcases List.mem_append.mp ht with ht | ht
    ·exact all t ht
    ·simp only [List.mem_cons,List.not_mem_nil,or_false] at ht
     rcases ht with h | h <;> subst h
     ·exact zgi kk kw (by omega) c3 (Int.le_refl _) (.inl rfl)
     ·exact zgi kk kw (by decide) (by decide) c3 (.inr rfl)
   refine ⟨_,rfl,_,rfl,c,61,rfl,by decide,by decide,fun mz mz0 mz1=>?_⟩
   have hln:(xs++ [V.ref x1,.ref x2]).length=23:=by rw [List.length_append,hxl,hlen];rfl
   have hln2:(ts++ [Th.tup [k,wo,.int 0,.int 0,.int cnt],.tup [k,wo,.int 0,.int 0,.int 300]]).length=23:=by rw [List.length_append,hlen];rfl
   refine ⟨_,rfl,x5,_,rfl,.inl (SqL.of e5),_,_,rfl,rfl,(show (0:Int) < (((xs++ [V.ref x1,.ref x2]).length:Nat):Int) by rw [hln];decide),?_⟩
   rw [hln]
   obtain ⟨v,t,ev,rv,kt⟩:=rl.pick (i:=mz % ((23:Nat):Int)) (Int.emod_nonneg _ (by decide)) (by rw [hln2];exact Int.emod_lt_of_pos _ (by decide)) hall
   exact ⟨x5,_,_,_,rfl,rfl,SqL.of e5,ev,q t v M4 (s02.trans (nl21.sm.trans t15)) rv kt⟩
end
end Pv
namespace Pv
open PySem L2
abbrev zb7:Stmt:=top 70
theorem zeE:zv ["vault","root","way","key"] ["vault","root","way","key"] (zg zb7):=⟨rfl,rfl,rfl,by decide+kernel,rfl,by decide+kernel,by decide+kernel⟩
abbrev zcq:Stmt:=top 71
theorem zfB:zv ["vault","root","way","key"] ["vault","root","way","key"] (zg zcq):=⟨rfl,rfl,rfl,by decide+kernel,rfl,by decide+kernel,by decide+kernel⟩
abbrev zbI:Stmt:=top 72
theorem zat:zv ["vault","root","way","key","due","kinds","other","e"] ["vault","root","way","key","due"] (zg zbI):=⟨rfl,rfl,rfl,by decide+kernel,rfl,by decide+kernel,by decide+kernel⟩
theorem zg1 (x:Th):za2 .non x=false:=by
 unfold za2
 rw [decide_eq_true (show Th.non=.non from rfl)];rfl
theorem zfi (x:Th):za2 x .non=false:=by
 unfold za2
 rw [decide_eq_true (show Th.non=.non from rfl)];simp
def WayR (cs:List (Int ×Th))(n:Int)(x:Th)(b:Bool):Prop:=∃ns,Way cs x n 301 ns (some b)∧ns.length≤300
def RefW (cs:List (Int ×Th))(n w:Int)(x:Th)(b:Bool):Prop:=
 (w=0∧WayR cs n x b)∨(w=1∧WayR cs n x b)∨
 (w=2∧(WayR cs n x b∨(∃nd,n≠0∧ben cs n 301=.ok nd∧nd.k=x∧nd.l≠0∧nd.r≠0∧(ben cs nd.l nd.c=.error b∨∃one,ben cs nd.l nd.c=.ok one∧ben cs nd.r nd.c=.error b))))∨
 (w=3∧WayR cs n x b)∨
 (w=4∧∃k,k≤100∧StW cs .non x k n [] [] 301 (.error b))∨(w=5∧∃k,k≤100∧StW cs x .non k n [] [] 301 (.error b))∨(w=6∧WayR cs n x b)∨(w=7∧∃k,k≤100∧StW cs .non .non k n [] [] 301 (.error b))∨
 (w=8∧n≠0∧∃nd,ben cs n 301=.ok nd∧zai cs nd.l nd.c=.error b)∨
 (w=9∧n≠0∧ben cs n 301=.error b)∨(w=10∧n≠0∧ben cs n 301=.error b)∨(w=11∧n≠0∧ben cs n 301=.error b)
def zjx (C CN CB:Addr):Sp:=fun vs H Q E=>∃(a d:Addr) (cs:List (Int ×Th)) (n w:Int) (x:Th) (vx:V) (b:Bool),vs=[.ref a,.int n,.int w,vx]∧VS H C a d cs∧Rep H x vx∧KeyT x∧RefW cs n w x b∧∀H',Same H H'→E (.ref (exA CN CB b)) none H'
def zix (C CN CB:Addr):Sp:=fun vs H Q E=>∃(a d:Addr) (cs:List (Int ×Th)) (n w:Int) (x:Th) (vx:V) (b:Bool),vs=[.ref a,.int n,.int w,vx]∧VS H C a d cs∧Rep H x vx∧KeyT x∧RefW cs n w x b∧5≤w∧∀H',Same H H'→E (.ref (exA CN CB b)) none H'
def dueS (b:Bool):Str:=if b=true then "bad" else "lacks"
def ze0 (C:Addr):Sp:=fun vs H Q _=>∃(a d:Addr) (cs:List (Int ×Th)) (n w:Int) (x:Th) (vx:V) (b:Bool),vs=[.ref a,.int n,.int w,vx,.str (dueS b)]∧VS H C a d cs∧Rep H x vx∧KeyT x∧RefW cs n w x b∧∀H',Same H H'→Q (.bl true) H'
structure RfK (K:PySem.W.Frag)(CV CB CN CC CNS CNT CNO Z:Addr)(b:Bool):Prop where
 kd:zit K Z
 em:PySem.W.exmOne K (.ref Z) (.ref CV)=some true
 k1:PySem.W.kitOne K (.ref Z) (.ref CB)=some b
 k2:PySem.W.kitOne K (.ref Z) (.ref CN)=some (!b)
 k3:PySem.W.kitOne K (.ref Z) (.type "ValueError")=some true
 k4:PySem.W.kitAny K (.ref Z) [.ref CC,.ref CNS,.ref CNT,.ref CNO]=some false
section
variable {P:Program}{w:World}{K:PySem.W.Frag}{mg:Str→Option Value}{base:Heap}{C CClash CNoPaper CBadThing CVaultError CNoState CNoThing CNotOn:Addr}{x:Str}{t1 t2 t3 t4 t5 t6 t7:Tok}
theorem zkE (D:Dfn K mg "_law_beside" zb7 ["vault","root","way","key"]) (F_stretch:FnX P w K mg base "stretch" 22 ["vault","root","low","high"] (zbt C CNoPaper CBadThing)) (F_counted:FnX P w K mg base "counted" 24 ["vault","root","low","high"] (zb8 C CNoPaper CBadThing)) (F_nth:FnX P w K mg base "nth" 6 ["vault","root","number"] (zgU C CNoPaper CBadThing)) (F_node_at:FnX P w K mg base "node_at" 5 ["vault","root"] (zk4 C CNoPaper CBadThing)) (F_size:FnX P w K mg base "size" 6 ["vault","root"] (zdY C CNoPaper CBadThing))
  (F_join:FnX P w K mg base "join" 23 ["vault","left","right"] (zhu C CClash CNoPaper CBadThing)):FnX P w K mg base "_law_beside" 25 ["vault","root","way","key"] (zix C CNoPaper CBadThing):=by
 refine D.okX (k:=24) zeE (fun vs H Q E h=>?_) (fun f cdv A outer s H vs Q E hr h=>?_)
 ·obtain ⟨a,d,cs,n,w,x,vx,b,rfl,_⟩:=h;rfl
 obtain ⟨a,d,cs,n,w,x,vx,b,rfl,vs,rx,kx,rf,h5,qe⟩:=h
 refine ⟨_,(zd (zE (zw zac (pv 2) zb (zt _))
 (ze (zl (zH F_stretch hr (by omega) (by rfl) zD (za (pv 0) (za (pv 1) (za (pv 3) (za zP zc)))))))
 zu)
 (zd (zE (zw zac (pv 2) zb (zt _))
 (ze (zl (zH F_counted hr (by omega) (by rfl) zD (za (pv 0) (za (pv 1) (za zP (za (pv 3) zc)))))))
 zu)
 (zd (zE (zw zac (pv 2) zb (zt _))
 (ze (zl (zH F_stretch hr (by omega) (by rfl) zD (za (pv 0) (za (pv 1) (za zP (za zP zc)))))))
 zu)
 (zd (zE (zw zac (pv 2) zb (zt _))
 (ze (zl (zH F_nth hr (by omega) (by rfl) zD (za (pv 0) (za (pv 1) (za zb zc))))))
 zu)
 (zd (zE (zw zac (pv 2) zb (zt _))
 (ze (zl (zH F_node_at hr (by omega) (by rfl) zD (za (pv 0) (za (pv 1) zc)))))
 zu)
 (zd (zE (zw zac (pv 2) zb (zt _))
 (ze (zl (zH F_size hr (by omega) (by rfl) zD (za (pv 0) (za (pv 1) zc)))))
 zu)
 (ze (zl (zH F_join hr (by omega) (by rfl) zD (za (pv 0) (za (pv 1) (za (pv 1) zc)))))))))))),?_⟩
 have kd:=kx.dp
 have dn:dep Th.non≤3:=Nat.zero_le _
 rcases rf with ⟨rfl,_⟩ | ⟨rfl,_⟩ | ⟨rfl,_⟩ | ⟨rfl,_⟩ | ⟨rfl,_⟩ | ⟨rfl,k,hk,st⟩ | ⟨rfl,ns,wy,hns⟩ | ⟨rfl,k,hk,st⟩ | ⟨rfl,hn,nd,e1,e2⟩ | ⟨rfl,hn,e1⟩ | ⟨rfl,hn,e1⟩ | ⟨rfl,hn,e1⟩
 ·exact absurd h5 (by decide)
 ·exact absurd h5 (by decide)
 ·exact absurd h5 (by decide)
 ·exact absurd h5 (by decide)
 ·exact absurd h5 (by decide)
 ·refine ⟨_,rfl,rfl,_,rfl,?_⟩
  rw [zR]
  refine ifT (decide_eq_true rfl) ?_
  exact ⟨_,rfl,_,rfl,_,rfl,a,d,cs,n,x,.non,vx,_,rfl,vs,rx,.non,kd,.inr ⟨zfi x,k,_,st,hk,(by intro ps e;cases e),(by intro b' H' e s;cases e;exact qe H' s)⟩⟩
 ·iterate 1 (refine ⟨_,rfl,rfl,_,rfl,?_⟩;rw [zR];refine ifF (decide_eq_false (by decide)) ?_)
  refine ⟨_,rfl,rfl,_,rfl,?_⟩
  rw [zR]
  refine ifT (decide_eq_true rfl) ?_
  exact ⟨_,rfl,_,rfl,_,rfl,a,d,cs,n,.non,x,_,vx,rfl,vs,.non,rx,dn,.inr (.inl ⟨rfl,kx,ns,b,wy,hns,qe⟩)⟩
 ·iterate 2 (refine ⟨_,rfl,rfl,_,rfl,?_⟩;rw [zR];refine ifF (decide_eq_false (by decide)) ?_)
  refine ⟨_,rfl,rfl,_,rfl,?_⟩
  rw [zR]
  refine ifT (decide_eq_true rfl) ?_
  exact ⟨_,rfl,_,rfl,a,d,cs,n,.non,.non,_,_,rfl,vs,.non,.non,dn,.inr ⟨zfi _,k,_,st,hk,(by intro ps e;cases e),(by intro b' H' e s;cases e;exact qe H' s)⟩⟩
 ·iterate 3 (refine ⟨_,rfl,rfl,_,rfl,?_⟩;rw [zR];refine ifF (decide_eq_false (by decide)) ?_)
  refine ⟨_,rfl,rfl,_,rfl,?_⟩
  rw [zR]
  refine ifT (decide_eq_true rfl) ?_
  exact ⟨_,rfl,_,rfl,a,d,cs,n,0,rfl,vs,.inr ⟨rfl,hn,nd,b,e1,e2,qe H (Same.refl H)⟩⟩
 ·iterate 4 (refine ⟨_,rfl,rfl,_,rfl,?_⟩;rw [zR];refine ifF (decide_eq_false (by decide)) ?_)
  refine ⟨_,rfl,rfl,_,rfl,?_⟩
  rw [zR]
  refine ifT (decide_eq_true rfl) ?_
  exact ⟨_,rfl,_,rfl,a,d,cs,n,rfl,vs,(by intro nd v e;rw [e1] at e;cases e),(by intro b' e;rw [e1] at e;cases e;exact qe H (Same.refl H))⟩
 ·iterate 5 (refine ⟨_,rfl,rfl,_,rfl,?_⟩;rw [zR];refine ifF (decide_eq_false (by decide)) ?_)
  refine ⟨_,rfl,rfl,_,rfl,?_⟩
  rw [zR]
  refine ifT (decide_eq_true rfl) ?_
  have e2:zai cs n 301=.error b:=by rw [zbV hn,e1];rfl
  exact ⟨_,rfl,_,rfl,a,d,cs,n,rfl,vs,(by intro c e;rw [e2] at e;cases e),(by intro b' e;rw [e2] at e;cases e;exact qe H (Same.refl H))⟩
 ·iterate 6 (refine ⟨_,rfl,rfl,_,rfl,?_⟩;rw [zR];refine ifF (decide_eq_false (by decide)) ?_)
  exact ⟨_,rfl,_,rfl,_,rfl,a,d,cs,n,n,rfl,vs,hn,hn,.inl ⟨b,e1,qe⟩⟩
theorem zkL (D:Dfn K mg "_law_asked" zcq ["vault","root","way","key"]) (F_found:FnX P w K mg base "found" 23 ["vault","root","key"] (zcs C CNoPaper CBadThing)) (F_put:FnX P w K mg base "put" 23 ["vault","root","key","worth"] (ziZ C CNoPaper CBadThing)) (F_cut:FnX P w K mg base "cut" 23 ["vault","root","key"] (zgL C CClash CNoPaper CBadThing)) (F_part:FnX P w K mg base "part" 23 ["vault","root","key"] (zhy C CNoPaper CBadThing))
  (F_stretch:FnX P w K mg base "stretch" 22 ["vault","root","low","high"] (zbt C CNoPaper CBadThing)) (F_law_beside:FnX P w K mg base "_law_beside" 25 ["vault","root","way","key"] (zix C CNoPaper CBadThing)):FnX P w K mg base "_law_asked" 26 ["vault","root","way","key"] (zjx C CNoPaper CBadThing):=by
 refine D.okX (k:=25) zfB (fun vs H Q E h=>?_) (fun f cdv A outer s H vs Q E hr h=>?_)
 ·obtain ⟨a,d,cs,n,w,x,vx,b,rfl,_⟩:=h;rfl
 obtain ⟨a,d,cs,n,w,x,vx,b,rfl,vs,rx,kx,rf,qe⟩:=h
 refine ⟨_,(zd (zE (zw zac (pv 2) zb (zt _))
 (ze (zl (zH F_found hr (by omega) (by rfl) zD (za (pv 0) (za (pv 1) (za (pv 3) zc))))))
 zu)
 (zd (zE (zw zac (pv 2) zb (zt _))
 (ze (zl (zH F_put hr (by omega) (by rfl) zD (za (pv 0) (za (pv 1) (za (pv 3) (za zb zc)))))))
 zu)
 (zd (zE (zw zac (pv 2) zb (zt _))
 (ze (zl (zH F_cut hr (by omega) (by rfl) zD (za (pv 0) (za (pv 1) (za (pv 3) zc))))))
 zu)
 (zd (zE (zw zac (pv 2) zb (zt _))
 (ze (zl (zH F_part hr (by omega) (by rfl) zD (za (pv 0) (za (pv 1) (za (pv 3) zc))))))
 zu)
 (zd (zE (zw zac (pv 2) zb (zt _))
 (ze (zl (zH F_stretch hr (by omega) (by rfl) zD (za (pv 0) (za (pv 1) (za zP (za (pv 3) zc)))))))
 zu)
 (ze (zl (zH F_law_beside hr (by omega) (by rfl) zD (za (pv 0) (za (pv 1) (za (pv 2) (za (pv 3) zc)))))))))))),?_⟩
 have kd:=kx.dp
 have dn:dep Th.non≤3:=Nat.zero_le _
 by_cases h5:5≤w
 ·have far:∀k:Int,k < 5→decide (w=k)=false:=fun k hk=>decide_eq_false (by omega)
  iterate 5 (refine ⟨_,rfl,rfl,_,rfl,?_⟩;rw [zR];refine ifF (far _ (by decide)) ?_)
  exact ⟨_,rfl,_,rfl,_,rfl,_,rfl,a,d,cs,n,w,x,vx,b,rfl,vs,rx,kx,rf,h5,qe⟩
 rcases rf with ⟨rfl,ns,wy,hns⟩ | ⟨rfl,ns,wy,hns⟩ | ⟨rfl,hc⟩ | ⟨rfl,ns,wy,hns⟩ | ⟨rfl,k,hk,st⟩ | ⟨rfl,_⟩ | ⟨rfl,_⟩ | ⟨rfl,_⟩ | ⟨rfl,_⟩ | ⟨rfl,_⟩ | ⟨rfl,_⟩ | ⟨rfl,_⟩
 ·refine ⟨_,rfl,rfl,_,rfl,?_⟩
  rw [zR]
  refine ifT (decide_eq_true rfl) ?_
  exact ⟨_,rfl,_,rfl,_,rfl,a,d,cs,n,x,vx,ns,some b,rfl,vs,wy,hns,rx,kx,(by intro e;cases e),(by intro b' H' e s;cases e;exact qe H' s)⟩
 ·iterate 1 (refine ⟨_,rfl,rfl,_,rfl,?_⟩;rw [zR];refine ifF (decide_eq_false (by decide)) ?_)
  refine ⟨_,rfl,rfl,_,rfl,?_⟩
  rw [zR]
  refine ifT (decide_eq_true rfl) ?_
  exact ⟨_,rfl,_,rfl,_,rfl,a,d,cs,n,x,vx,_,ns,b,rfl,vs,wy,hns,rx,kx,qe⟩
 ·iterate 2 (refine ⟨_,rfl,rfl,_,rfl,?_⟩;rw [zR];refine ifF (decide_eq_false (by decide)) ?_)
  refine ⟨_,rfl,rfl,_,rfl,?_⟩
  rw [zR]
  refine ifT (decide_eq_true rfl) ?_
  refine ⟨_,rfl,_,rfl,_,rfl,a,d,cs,n,x,vx,rfl,vs,rx,kx,?_⟩
  rcases hc with ⟨ns,wy,hns⟩ | ⟨nd,hn,e1,ek,hl,hr0,e2 | ⟨one,e2,e3⟩⟩
  ·exact .inl ⟨ns,b,wy,hns,qe⟩
  ·exact .inr ⟨nd,hn,e1,ek,hl,hr0,.inl ⟨b,e2,qe⟩⟩
  ·exact .inr ⟨nd,hn,e1,ek,hl,hr0,.inr (.inl ⟨one,b,e2,e3,qe⟩)⟩
 ·iterate 3 (refine ⟨_,rfl,rfl,_,rfl,?_⟩;rw [zR];refine ifF (decide_eq_false (by decide)) ?_)
  refine ⟨_,rfl,rfl,_,rfl,?_⟩
  rw [zR]
  refine ifT (decide_eq_true rfl) ?_
  exact ⟨_,rfl,_,rfl,_,rfl,a,d,cs,n,x,vx,ns,b,rfl,vs,wy,hns,rx,kx,qe⟩
 ·iterate 4 (refine ⟨_,rfl,rfl,_,rfl,?_⟩;rw [zR];refine ifF (decide_eq_false (by decide)) ?_)
  refine ⟨_,rfl,rfl,_,rfl,?_⟩
  rw [zR]
  refine ifT (decide_eq_true rfl) ?_
  exact ⟨_,rfl,_,rfl,_,rfl,a,d,cs,n,.non,x,_,vx,rfl,vs,.non,rx,dn,.inr ⟨zg1 x,k,_,st,hk,(by intro ps e;cases e),(by intro b' H' e s;cases e;exact qe H' s)⟩⟩
 all_goals exact absurd (by decide) h5
theorem zkD (D:Dfn K mg "_law_refused" zbI ["vault","root","way","key","due"]) (F_law_asked:FnX P w K mg base "_law_asked" 26 ["vault","root","way","key"] (zjx C CNoPaper CBadThing)) (kB:RfK K CVaultError CBadThing CNoPaper CClash CNoState CNoThing CNotOn CBadThing true) (kN:RfK K CVaultError CBadThing CNoPaper CClash CNoState CNoThing CNotOn CNoPaper false)
  (c_VaultError:mg "VaultError" =some (.ref CVaultError)) (c_NoPaper:mg "NoPaper" =some (.ref CNoPaper)) (c_BadThing:mg "BadThing" =some (.ref CBadThing)) (c_Clash:mg "Clash" =some (.ref CClash)) (c_NoState:mg "NoState" =some (.ref CNoState)) (c_NoThing:mg "NoThing" =some (.ref CNoThing)) (c_NotOn:mg "NotOn" =some (.ref CNotOn))
  (m_isinstance:mg "isinstance" =none) (m_ValueError:mg "ValueError" =none):Fn P w K mg base "_law_refused" 27 ["vault","root","way","key","due"] (ze0 C):=by
 refine D.ok (k:=26) zat (fun vs H Q E h=>?_) (fun f cdv A outer s H vs Q E hr h=>?_)
 ·obtain ⟨a,d,cs,n,w,x,vx,b,rfl,_⟩:=h;rfl
 obtain ⟨a,d,cs,n,w,x,vx,b,rfl,vs,rx,kx,rf,q⟩:=h
 refine ⟨_,(zd (zj (i:=5) zat.nd rfl (Or.inl rfl) (zM zc))
 (zd (zj (i:=6) zat.nd rfl (Or.inl rfl) zaM)
 (zd (zfS (i:=7) rfl rfl zat.nd rfl rfl (by rfl) c_VaultError (fun xe pn E hx=>(ze (zaC (ziI F_law_asked hr (by omega) (by rfl) hx (za (pv 0) (za (pv 1) (za (pv 2) (za (pv 3) zc)))))))) (fun e=>(zd (zj (i:=5) zat.nd rfl (Or.inl rfl) (zM (za (zF (zbd (K:=K) rfl) (by rfl) m_isinstance (by rfl) (za (pv 7) (za (zx (v:=.ref CBadThing) (by rfl) c_BadThing rfl) zc))) (za (zF (zbd (K:=K) rfl) (by rfl) m_isinstance (by rfl) (za (pv 7) (za (zx (v:=.ref CNoPaper) (by rfl) c_NoPaper rfl) zc))) (za (zF (zbd (K:=K) rfl) (by rfl) m_isinstance (by rfl) (za (pv 7) (za (zaD (v:=.ty "ValueError") (by rfl) m_ValueError (by rfl) rfl) zc))) zc)))))
 (ze (zj (i:=6) zat.nd rfl (Or.inl rfl) (zF (zbd (K:=K) rfl) (by rfl) m_isinstance (by rfl) (za (pv 7) (za (zJ (za (zx (v:=.ref CClash) (by rfl) c_Clash rfl) (za (zx (v:=.ref CNoState) (by rfl) c_NoState rfl) (za (zx (v:=.ref CNoThing) (by rfl) c_NoThing rfl) (za (zx (v:=.ref CNotOn) (by rfl) c_NotOn rfl) zc))))) zc))))))))
 (ze (zl (zbl (zQ (zkB hr) (pv 5) (zM (za (zQ zac (pv 4) zah (zt _)) (za (zQ zac (pv 4) zah (zt _)) (za zaM zc)))) (zt _)) (zba (zgq (pv 6))))))))),?_⟩
 refine ⟨szl (show 0≤1000 by decide),fun pk hpk=>?_⟩
 have s0:=zk (o:=.lst []) (Same.refl H) hpk
 generalize upd H pk (.lst [])=H0 at s0
 refine ⟨_,rfl,_,rfl,_,rfl,_,rfl,a,d,cs,n,w,x,vx,b,rfl,vs.same s0,rx.keep (Same.tups s0),kx,rf,fun H1 s1=>?_⟩
 have kk:RfK K CVaultError CBadThing CNoPaper CClash CNoState CNoThing CNotOn (exA CNoPaper CBadThing b) b:=by
  cases b with
  | true=>exact kB
  | false=>exact kN
 have s01:Same H H1:=fun b o e=>s1 b o (s0 b o e)
 clear rf vs kB kN
 generalize exA CNoPaper CBadThing b=Z at kk
 refine ⟨Z,rfl,kk.em,fun e he=>?_⟩
 have s2:=zk (o:=exO e Z none false) s01 he
 have ee:upd H1 e (exO e Z none false) e=some (exO e Z none false):=zf
 generalize upd H1 e (exO e Z none false)=H2 at s2 ee
 have ho:∀H':Hp,∀d,(none:Option Addr)=some d→∃l,H' d=some (xdO d l):=fun H' d z=>by cases z
 refine ⟨_,rfl,e,Z,none,false,_,b,rfl,ee,kk.kd,ho _,?_,.inr (.inl ⟨_,rfl,kk.k1⟩)⟩
 refine ⟨_,rfl,e,Z,none,false,_, !b,rfl,ee,kk.kd,ho _,?_,.inr (.inl ⟨_,rfl,kk.k2⟩)⟩
 refine ⟨_,rfl,e,Z,none,false,_,true,rfl,ee,kk.kd,ho _,?_,.inl ⟨_,rfl,kk.k3⟩⟩
 refine ⟨szl (show 3≤1000 by decide),fun pl hpl=>?_⟩
 have s3:=zk (o:=.lst [.bl b,.bl (!b),.bl true]) s2 hpl
 have e3:upd H2 pl (.lst [.bl b,.bl (!b),.bl true]) e=some (exO e Z none false):=by rw [zq (zr ee hpl)];exact ee
 have el:upd H2 pl (.lst [.bl b,.bl (!b),.bl true]) pl=some (.lst [.bl b,.bl (!b),.bl true]):=zf
 generalize upd H2 pl (.lst [.bl b,.bl (!b),.bl true])=H3 at s3 e3 el
 refine ⟨_,rfl,szl (show 4≤1000 by decide),fun p hp=>?_⟩
 generalize hts:[V.ref CClash,.ref CNoState,.ref CNoThing,.ref CNotOn]=ts
 have et:upd H3 p (.tup ts) p=some (.tup ts):=zf
 have e4:upd H3 p (.tup ts) e=some (exO e Z none false):=by rw [zq (zr e3 hp)];exact e3
 have el4:upd H3 p (.tup ts) pl=some (.lst [.bl b,.bl (!b),.bl true]):=by rw [zq (zr el hp)];exact el
 have s4:Same H (upd H3 p (.tup ts)):=zk s3 hp
 generalize upd H3 p (.tup ts)=H4 at et e4 s4 el4
 refine ⟨e,Z,none,false,_,false,rfl,e4,kk.kd,ho _,?_,.inr (.inr ⟨p,ts,rfl,et,?_,?_⟩)⟩
 ·refine ⟨_,rfl,_,rfl,rfl,_,rfl,rfl,szl (show 3≤1000 by decide),fun pm hpm=>?_⟩
  have d1:decide (V.str (dueS b)=V.str ("bad" :Str))=b:=by cases b <;> decide+kernel
  have d2:decide (V.str (dueS b)=V.str ("lacks" :Str))= !b:=by cases b <;> decide+kernel
  have s5:Same H (upd H4 pm (.lst [.bl b,.bl (!b),.bl true])):=zk s4 hpm
  have e5:upd H4 pm (.lst [.bl b,.bl (!b),.bl true]) pl=some (.lst [.bl b,.bl (!b),.bl true]):=by rw [zq (zr el4 hpm)];exact el4
  rw [d1,d2]
  exact ⟨pl,pm,_,rfl,rfl,SqL.of e5,SqL.of zf,zgO [b, !b,true],_,rfl,ifT rfl ⟨_,rfl,_,rfl,q _ s5⟩⟩
 ·intro v hv
  rw [←hts] at hv
  simp only [List.mem_cons,List.not_mem_nil,or_false] at hv
  rcases hv with rfl | rfl | rfl | rfl <;> exact .inr ⟨_,rfl⟩
 ·rw [←hts];exact kk.k4
end
end Pv
namespace Pv
open PySem L2
inductive TV (h:Heap):Th→Value→Prop
 | non:TV h .non .none
 | int (i:Int) (t:Tok):TV h (.int i) (.int i t)
 | str (x:Str) (t:Tok):TV h (.str x) (.str x t)
 | tup {a:Addr} {o:Obj} {items:Array Value} {n:Nat} {ts:List Th} (ho:h.get? a=some o) (hc:o.cls=.type "tuple") (hd:o.data=.seq items n) (l:items.size=ts.length)
   (k:∀(i:Nat) (u:Value) (t:Th),items[i]? =some u→ts[i]? =some t→TV h t u):TV h (.tup ts) (.ref a)
theorem TV.of {X:Cx}{pins:List (Addr ×Obj)}{σ:L2.St}{H:Hp}{s:Shared}(I:L2.Inv X pins σ H s){t:Th}{v:V}(r:Rep H t v):∀{u:Value},RelV v u→TV s.heap t u:=by
 induction r with
 | non=>intro u ru;cases (show u=Value.none from ru);exact .non
 | int i=>intro u ru;obtain ⟨k,rfl⟩:=ru;exact .int i k
 | str x=>intro u ru;obtain ⟨k,rfl⟩:=ru;exact .str x k
 | @tup a xs ts e l h ih=>
  intro u ru
  cases (show u=Value.ref a from ru)
  obtain ⟨_,its,rv,o,h1,h2,n,h3⟩:=(show z6 X.prog X.w H s.heap a (.tup xs) from I.hok a _ e)
  have hl:=rv.length
  refine .tup h1 h2 h3 (by rw [List.size_toArray];omega) fun i u t eu et=>?_
  have hi:i < xs.length:=by have:=(List.getElem?_eq_some_iff.mp et).1;omega
  have ex:xs[i]? =some xs[i]:=List.getElem?_eq_getElem hi
  obtain ⟨w,ew,rw'⟩:=rv.get ex
  have:u=w:=by
   have e2:its[i]? =some u:=by simpa using eu
   rw [ew] at e2;exact (Option.some.inj e2).symm
  subst this
  exact ih i _ _ ex et rw'
theorem TV.inj {h:Heap}{t:Th}{u:Value}(r:TV h t u):∀{t':Th},TV h t' u→t=t':=by
 induction r with
 | non=>intro t' q;cases q;rfl
 | int i k=>intro t' q;cases q;rfl
 | str x k=>intro t' q;cases q;rfl
 | @tup a o items n ts ho hc hd l k ih=>
  intro t' q
  cases q with
  | @tup _ o' items' n' ts' ho' hc' hd' l' k'=>
   obtain rfl:o=o':=Option.some.inj (ho.symm.trans ho')
   rw [hd] at hd'
   injection hd' with e1 _
   subst e1
   congr 1
   apply List.ext_getElem?
   intro i
   by_cases hi:i < ts.length
   ·have e1:ts[i]? =some ts[i]:=List.getElem?_eq_getElem hi
    have e2:ts'[i]? =some (ts'[i]'(by omega)):=List.getElem?_eq_getElem (by omega)
    have e3:items[i]? =some (items[i]'(by omega)):=Array.getElem?_eq_getElem (by omega)
    rw [e1,e2,ih i _ _ e3 e1 (k' i _ _ e3 e2)]
   ·rw [List.getElem?_eq_none (by omega),List.getElem?_eq_none (by omega)]
def hsh (w:World):Th→Int
 | .non=>0xFCA86420
 | .int i=>hashInt i
 | .str x=>hashStr w x
 | .tup ts=>reduceHash (Builtin.Tuple.tupleHashOf (hshL w ts))
where hshL (w:World):List Th→List Int
 | []=>[]
 | t::ts=>hsh w t::hshL w ts
section
variable {prog:Program}{w:World}{A:Around}{E:Value→Shared→Prop}{s:Shared}
end
end Pv
set_option maxHeartbeats 400000
namespace Pv
open PySem L2 PySem.Spec PyProof.Rows
open Classical in
noncomputable def isT (h:Heap)(t:Th)(u:Value):Bool:=decide (TV h t u)
open Classical in
theorem ziP {h:Heap}{t u:Th}{v:Value}(r:TV h u v):isT h t v=eqT u t:=by
 unfold isT
 cases z:eqT u t with
 | true=>
  have e:u=t:=(zaX u t).mp z
  rw [←e];exact decide_eq_true r
 | false=>exact decide_eq_false fun q=>by rw [r.inj q,zao] at z;cases z
section
variable {X:Cx}
theorem zg3 {X:Cx}{pins:List (Addr ×Obj)}{σ:L2.St}{H:Hp}{s:Shared}(I:L2.Inv X pins σ H s)(t:Th):∀{ts:List Th} {xs:List V} {its:List Value},RepL H ts xs→Vals xs its→its.any (isT s.heap t)=ts.any fun u=>eqT u t
 | _,_,_,.nil,.nil=>rfl
 | _,_,_,.cons h r,.cons a b=>by rw [List.any_cons,List.any_cons,ziP (TV.of I h a),zg3 I t r b]
theorem ziB {X:Cx}{pins:List (Addr ×Obj)}{σ:L2.St}{H:Hp}{s:Shared}{A:Around}(I:L2.Inv X pins σ H s){t:Th}{x:V}{v:Value}(rt:Rep H t x)(rx:RelV x v)(hu:A.units+52 < cLine):∀{ts:List Th} {xs:List V} {its:List Value},RepL H ts xs→Vals xs its→(∀u∈ts,dep u≤50)→∀w∈its,SeqAt.EqAt A s w v (isT s.heap t w)
 | _,_,_,.nil,.nil,_=>fun w hw=>nomatch hw
 | u::_,_,_,.cons h r,.cons a b,hd=>fun w hw=>by
  rcases List.mem_cons.mp hw with e | hw
  ·subst e
   have:=hd u List.mem_cons_self
   rw [ziP (TV.of I h a)]
   exact zgA I h rt a rx (by omega)
  ·exact ziB I rt rx hu r b (fun z hz=>hd z (List.mem_cons_of_mem _ hz)) w hw
end
end Pv
namespace L2
open PySem PySem.Spec PyProof.Rows
section
variable {X:Cx}{pos:Pos}
def zmz (K:PySem.W.Frag)(n:Nat)(t:TGs):TG:=fun v σ H Q=>∃a xs,v=.ref a∧SqL K H a xs∧xs.length=n∧t xs σ H Q
theorem zku {es:List Expr}{k:Nat}{t:TGs}{n:Nat}(hc:X.calm=true)(h:PGs X es t)
  (hn:(assignEach es X.env).length=n:=by rfl) (hst:(assignEach es X.env).findIdx? (·.1)=none:=by rfl):PG X (.Tuple es k pos) (zmz X.K n t):=by
 intro pins s σ H v u Q I r hw
 obtain ⟨a,xs,e1,hq,hl,hw⟩:=hw
 subst e1
 cases r
 obtain ⟨its,rv,pl,hz⟩:=I.list hq
 rw [arm_assign_Tuple]
 refine wpAny_bind (wpAny_standAt ?_)
 unfold unpack
 have e2:(assignEach es X.env).length=its.toArray.size:=by simp [hn,←hl,rv.length]
 rw [e2,hst]
 refine wpAny_bind (wpAny_holding (PySem.W.kun_itemsOf (I.ok.hd hc) pl.isList fun h' hx=>?_))
 have I1:Inv X pins σ H {s with heap:=h'}:=I.kept (t':=s.toks) fun b o e=>hx b o (Nat.ne_of_lt (Heap.lt_size e)) e
 exact h pins _ σ H xs _ Q I1 (by simpa using rv) hw
end
end L2
namespace Pv
open PySem L2 PySem.Spec PyProof.Rows
section
variable {X:Cx}
theorem zgP {k:Nat}(hr:Room k X.A):OpR X (compareOp .NotIn) (fun x y H Q=>∃b xs ts t,y=.ref b∧SqT X.K H b xs∧RepL H ts xs∧Rep H t x∧(∀u∈ts,dep u≤50)∧Q (.bl (!ts.any fun u=>eqT u t)) H):=by
 intro pins s σ H x y v u Q I rx ry h
 obtain ⟨b,xs,ts,t,rfl,hq,rl,rt,hd,q⟩:=h
 cases ry
 obtain ⟨its,r,pl,hz⟩:=I.tuple hq
 have hu:=hr.units
 refine SeqAt.notIn_tupleAt (isT s.heap t) pl (fun w hw=>ziB I rt rx (by first | omega | (show X.A.units+1+52 < cLine;omega)) rl r hd w (by simpa using hw)) ⟨.bl _,H,I,rfl,?_⟩
 rw [show its.toArray.any (isT s.heap t)=its.any (isT s.heap t) by simp,zg3 I t rl r]
 exact q
end
end Pv
set_option maxHeartbeats 4000000
namespace Pv
open PySem L2
abbrev zb2:Stmt:=top 76
theorem zbL:zv ["keeper","bad","key","other","low","high"] ["keeper","bad","key","other"] (zg zb2):=⟨rfl,rfl,rfl,by decide+kernel,rfl,by decide+kernel,by decide+kernel⟩
abbrev zbb:Stmt:=top 75
theorem zW:zv ["keeper","cell","way","pairs","count","bad","links","root"] ["keeper","cell","way"] (zg zbb):=⟨rfl,rfl,rfl,by decide+kernel,rfl,by decide+kernel,by decide+kernel⟩
theorem zgg {x y:Th}(hx:KeyT x)(hy:KeyT y)(h:zh x y=false):za2 x y=true:=by
 unfold za2
 rw [decide_eq_false hx.ne,decide_eq_false hy.ne,h];rfl
def zf1 (C:Addr):Sp:=fun vs H Q _=>∃(a d:Addr) (cs:List (Int ×Th)) (n:Int) (x y:Th) (vx vy:V),vs=[.ref a,.int n,vx,vy]∧VS H C a d cs∧Rep H x vx∧Rep H y vy∧KeyT x∧KeyT y∧∀H',Same H H'→Q (.bl true) H'
def ze5 (C CC:Addr):Sp:=fun vs H Q E=>∃(a d:Addr) (c m:Int),vs=[.ref a,.int c,.int m]∧VS H C a d []∧Cl CC E∧∀H',Fr1 d H H'→Q (.bl true) H'
theorem zdC {k:Th}(hk:KeyT k):Good (z9 k (.int 1) 0 0 1)∧NodeOk k (.int 1) 0 0 1:=
 ⟨(zaH hk (zbe (by decide) (by decide)) (by decide) (by decide) (by decide) (by decide) (by decide) (by decide)).2,(zaH hk (zbe (by decide) (by decide)) (by decide) (by decide) (by decide) (by decide) (by decide) (by decide)).1⟩
theorem three_parts {H:Hp}{p:Addr}{ps:List (Th ×Th)}(pl:PL H p ps)(h:ps.length=3):∃a0 a1 a2 k0 k1 k2 w0 w1 w2 v0 v1 v2 u0 u1 u2,ps=[(k0,w0),(k1,w1),(k2,w2)]∧H p=some (.lst [.ref a0,.ref a1,.ref a2])∧
  H a0=some (.tup [v0,u0])∧H a1=some (.tup [v1,u1])∧H a2=some (.tup [v2,u2])∧Rep H k0 v0∧Rep H w0 u0∧Rep H k1 v1∧Rep H w1 u1∧Rep H k2 v2∧Rep H w2 u2:=by
 obtain ⟨xs,e,r⟩:=pl.ex
 obtain ⟨p0,p1,p2,rfl⟩:∃p0 p1 p2,ps=[p0,p1,p2]:=by
  match ps,h with
  | [p0,p1,p2],_=>exact ⟨p0,p1,p2,rfl⟩
 replace r:RepL H [zZ p0,zZ p1,zZ p2] xs:=r
 cases r with
 | cons h0 r=>
 cases r with
 | cons h1 r=>
 cases r with
 | cons h2 r=>
 cases r with
 | nil=>
 obtain ⟨a0,v0,u0,rfl,e0,r0,q0⟩:=zcj h0
 obtain ⟨a1,v1,u1,rfl,e1,r1,q1⟩:=zcj h1
 obtain ⟨a2,v2,u2,rfl,e2,r2,q2⟩:=zcj h2
 exact ⟨a0,a1,a2,p0.1,p1.1,p2.1,p0.2,p1.2,p2.2,v0,v1,v2,u0,u1,u2,rfl,e,e0,e1,e2,r0,q0,r1,q1,r2,q2⟩
section
variable {P:Program}{w:World}{K:PySem.W.Frag}{mg:Str→Option Value}{base:Heap}{C CC CN CB:Addr}{x:Str}{t1 t2 t3 t4 t5 t6 t7:Tok}
theorem zh3 (D:Dfn K mg "_law_unread" zb2 ["keeper","bad","key","other"]) (F_law_ahead:Fn P w K mg base "_law_ahead" 11 ["one","other"] (zda 9)) (F_stretch:FnX P w K mg base "stretch" 22 ["vault","root","low","high"] (zbt C CN CB)) (F_counted:FnX P w K mg base "counted" 24 ["vault","root","low","high"] (zb8 C CN CB)) (F_nth:FnX P w K mg base "nth" 6 ["vault","root","number"] (zgU C CN CB)):Fn P w K mg base "_law_unread" 25 ["keeper","bad","key","other"] (zf1 C):=by
 refine D.ok (k:=24) zbL (fun vs H Q E h=>?_) (fun f cdv A outer s H vs Q E hr h=>?_)
 ·obtain ⟨a,d,cs,n,x,y,vx,vy,rfl,_⟩:=h;rfl
 obtain ⟨a,d,cs,n,x,y,vx,vy,rfl,vs,rx,ry,kx,ky,q⟩:=h
 have xd:=kx.dp
 have yd:=ky.dp
 refine ⟨_,(zd (zjr (i:=4) (j:=5) rfl zbL.nd rfl rfl (by decide) rfl rfl (za (pv 2) (za (pv 3) zc)) (by rfl))
 (zd (zE (zS (zC F_law_ahead hr (by omega) (by rfl) (za (pv 2) (za (pv 3) zc))))
 (ze (zjr (i:=4) (j:=5) rfl zbL.nd rfl rfl (by decide) rfl rfl (za (pv 3) (za (pv 2) zc)) (by rfl)))
 zu)
 (zd (zE (PW.pt (zbS (zw (zfJ hr) (zH F_stretch hr (by omega) (by rfl) za7 (za (pv 0) (za (pv 1) (za (pv 4) (za (pv 5) zc))))) (zM zc) (zt _)) (zbx (zw zbu (zH F_counted hr (by omega) (by rfl) za7 (za (pv 0) (za (pv 1) (za (pv 4) (za (pv 5) zc))))) zb (zt _)))))
 (ze (zl zaM))
 zu)
 (zd (zE (PW.pt (zbS (zw (zfJ hr) (zH F_stretch hr (by omega) (by rfl) za7 (za (pv 0) (za (pv 1) (za (pv 2) (za (pv 2) zc))))) (zM zc) (zt _)) (zbx (zw zbu (zH F_counted hr (by omega) (by rfl) za7 (za (pv 0) (za (pv 1) (za (pv 2) (za (pv 2) zc))))) zb (zt _)))))
 (ze (zl zaM))
 zu)
 (ze (zl (zbl (zQ za3 (zH F_nth hr (by omega) (by rfl) za7 (za (pv 0) (za (pv 1) (za (zdn zb6 zb) zc)))) zP (zt _)) (zba (zQ za3 (zH F_nth hr (by omega) (by rfl) za7 (za (pv 0) (za (pv 1) (za (zdn zb6 (zo zaN zb zb)) zc)))) zP (zt _)))))))))),?_⟩
 refine ⟨_,rfl,_,rfl,_,_,rfl,?_⟩
 dsimp only
 refine zbj (fun σ H'=>∃(lo hi:Th) (vl vh:V),σ=[some (.ref a),some (.int n),some vx,some vy,some vl,some vh]∧Same H H'∧Rep H' lo vl∧Rep H' hi vh∧KeyT lo∧KeyT hi∧zh lo hi=false) (fun N kN=>?_) ?_
 ·refine ⟨_,rfl,_,rfl,x,y,vx,vy,rfl,rx,ry,by omega,by omega,kx.wf,ky.wf,fun H1 s1=>⟨_,rfl,?_⟩⟩
  cases z:zh x y with
  | true=>exact ifT rfl ⟨_,rfl,_,rfl,_,_,rfl,kN _ _ ⟨y,x,_,_,rfl,s1,ry.keep (Same.tups s1),rx.keep (Same.tups s1),ky,kx,zag z⟩⟩
  | false=>exact ifF rfl (kN _ _ ⟨x,y,_,_,rfl,s1,rx.keep (Same.tups s1),ry.keep (Same.tups s1),kx,ky,z⟩)
 ·rintro σ H1 ⟨lo,hi,vl,vh,rfl,s1,rl,rh,kl,kh,hz⟩
  have ld:=kl.dp
  have em:=zgg kl kh hz
  refine ⟨_,rfl,_,rfl,_,rfl,_,rfl,a,d,cs,n,lo,hi,vl,vh,rfl,vs.same s1,rl,rh,ld,.inl ⟨em,fun p1 H2 s2 hp1 e1=>?_⟩⟩
  refine ⟨szl (show 0≤1000 by decide),fun p2 hp2=>?_⟩
  have s3:=zk (o:=.lst []) (Same.refl H2) hp2
  have e3:upd H2 p2 (.lst []) p2=some (.lst []):=zf
  generalize upd H2 p2 (.lst [])=H3 at s3 e3
  have s13:Same H1 H3:=s2.trans s3
  refine ⟨p1,p2,[],rfl,rfl,SqL.of (s3 _ _ e1),SqL.of e3,_,rfl,ifF rfl ?_⟩
  refine ⟨_,rfl,_,rfl,_,rfl,_,rfl,a,d,cs,n,lo,hi,vl,vh,rfl,vs.same (s1.trans s13),rl.keep (Same.tups s13),rh.keep (Same.tups s13),ld,.inl ⟨em,fun H4 s4=>?_⟩⟩
  refine ⟨rfl,_,rfl,ifF rfl ?_⟩
  have s14:Same H1 H4:=s13.trans s4
  have s04:=s1.trans s14
  have em2:=zgg kx kx (zab x)
  have rx4:=rx.keep (Same.tups s04)
  refine ⟨_,rfl,_,rfl,_,rfl,_,rfl,a,d,cs,n,x,x,vx,vx,rfl,vs.same s04,rx4,rx4,xd,.inl ⟨em2,fun p3 H5 s5 hp3 e5=>?_⟩⟩
  refine ⟨szl (show 0≤1000 by decide),fun p4 hp4=>?_⟩
  have s6:=zk (o:=.lst []) (Same.refl H5) hp4
  have e6:upd H5 p4 (.lst []) p4=some (.lst []):=zf
  generalize upd H5 p4 (.lst [])=H6 at s6 e6
  have s46:=s5.trans s6
  refine ⟨p3,p4,[],rfl,rfl,SqL.of (s6 _ _ e5),SqL.of e6,_,rfl,ifF rfl ?_⟩
  refine ⟨_,rfl,_,rfl,_,rfl,_,rfl,a,d,cs,n,x,x,vx,vx,rfl,vs.same (s04.trans s46),rx4.keep (Same.tups s46),rx4.keep (Same.tups s46),xd,.inl ⟨em2,fun H7 s7=>?_⟩⟩
  refine ⟨rfl,_,rfl,ifF rfl ?_⟩
  have s07:=(s04.trans s46).trans s7
  refine ⟨_,rfl,_,rfl,_,rfl,a,d,cs,n, -1,rfl,vs.same s07,.inl ⟨by decide,?_⟩⟩
  refine ⟨rfl,_,rfl,ifT (by decide) ?_⟩
  refine ⟨_,rfl,_,rfl,_,_,rfl,rfl,⟨by decide,by decide,by decide⟩,_,rfl,a,d,cs,n,_,rfl,vs.same s07,.inl ⟨by decide+kernel,?_⟩⟩
  exact ⟨rfl,q H7 s07⟩
theorem zkP (D:Dfn K mg "_law_cut_itself" zbb ["keeper","cell","way"]) (F_law_three:Fn P w K mg base "_law_three" 13 ["cell","way"] zfD) (F_law_mix:Fn P w K mg base "_law_mix" 1 ["cell","k"] zeI) (F_law_none:Fn P w K mg base "_law_none" 4 ["cell","way","count"] zgH) (M_lay:Mt P w K mg base (CX1 P w) C "lay" 14 ["self","thing"] (zed C CC)) (c_C:Cls K C) (F_law_refused:Fn P w K mg base "_law_refused" 27 ["vault","root","way","key","due"] (ze0 C)) (F_found:FnX P w K mg base "found" 23 ["vault","root","key"] (zcs C CN CB)) (m_len:mg "len" =none):FnX P w K mg base "_law_cut_itself" 28 ["keeper","cell","way"] (ze5 C CC):=by
 refine D.okX (k:=27) zW (fun vs H Q E h=>?_) (fun f cdv A outer s H vs Q E hr h=>?_)
 ·obtain ⟨a,d,c,m,rfl,_⟩:=h;rfl
 obtain ⟨a,d,c,m,rfl,vs,cl,q⟩:=h
 refine ⟨_,(zd (zj (i:=3) zW.nd rfl (Or.inl rfl) (zC F_law_three hr (by omega) (by rfl) (za (pv 1) (za (pv 2) zc))))
 (zd (zE (zw zcJ (zF (zI) (by rfl) m_len (by rfl) (za (pv 3) zc)) zb (zt _))
 (ze (zl zaM))
 zu)
 (zd (zj (i:=4) zW.nd rfl (Or.inl rfl) (zo zO zb (zo z8 (zC F_law_mix hr (by omega) (by rfl) (za (pv 1) (za zb zc))) zb)))
 (zd (zj (i:=5) zW.nd rfl (Or.inl rfl) (zJ (za (zm zA (zm zB (pv 3) zb (fun _ _=>rfl)) zb (fun _ _=>rfl)) (za zb (za zb (za zb (za (zo zO (pv 4) (zo z8 (zC F_law_mix hr (by omega) (by rfl) (za (pv 1) (za zb zc))) zb)) zc)))))))
 (zd (zE (zw zac (zo z8 (zC F_law_mix hr (by omega) (by rfl) (za (pv 1) (za zb zc))) zb) zb (zt _))
 (ze (zj (i:=5) zW.nd rfl (Or.inl rfl) (zC F_law_none hr (by omega) (by rfl) (za (pv 1) (za (pv 2) (za (pv 4) zc))))))
 zu)
 (zd (zj (i:=6) zW.nd rfl (Or.inl rfl) (zM (za (zbR (pv 0) c_C M_lay hr (by omega) zD (za (pv 5) zc)) (za (zbR (pv 0) c_C M_lay hr (by omega) zD (za (zJ (za (zm zA (zm zB (pv 3) zb (fun _ _=>rfl)) zb (fun _ _=>rfl)) (za zb (za zb (za zb (za zb zc)))))) zc)) zc))))
 (zd (zE (zw zac (zo z8 (zC F_law_mix hr (by omega) (by rfl) (za (pv 1) (za zb zc))) zb) zb (zt _))
 (ze (zj (i:=6) zW.nd rfl (Or.inl rfl) (zM (za (zbR (pv 0) c_C M_lay hr (by omega) zD (za (zJ (za (zm zA (zm zB (pv 3) zb (fun _ _=>rfl)) zb (fun _ _=>rfl)) (za zb (za zb (za zb (za zb zc)))))) zc)) (za (zbR (pv 0) c_C M_lay hr (by omega) zD (za (pv 5) zc)) zc)))))
 zu)
 (zd (zj (i:=7) zW.nd rfl (Or.inl rfl) (zbR (pv 0) c_C M_lay hr (by omega) zD (za (zJ (za (zm zA (zm zB (pv 3) zb (fun _ _=>rfl)) zb (fun _ _=>rfl)) (za zb (za (zm zB (pv 6) zb (fun _ _=>rfl)) (za (zm zB (pv 6) zb (fun _ _=>rfl)) (za (pv 4) zc)))))) zc)))
 (ze (zl (zbl (zC F_law_refused hr (by omega) (by rfl) (za (pv 0) (za (pv 7) (za zb (za (zm zA (zm zB (pv 3) zb (fun _ _=>rfl)) zb (fun _ _=>rfl)) (za zah zc)))))) (zba (zQ zac (zH F_found hr (by omega) (by rfl) za7 (za (pv 0) (za (pv 7) (za (zm zA (zm zB (pv 3) zb (fun _ _=>rfl)) zb (fun _ _=>rfl)) zc)))) zb (zt _)))))))))))))),?_⟩
 refine ⟨_,rfl,_,rfl,c,m,rfl,fun pp ps H1 s1 pl so kp hl hw=>?_⟩
 obtain ⟨xs,exs,rxs⟩:=pl.ex
 have hxl:xs.length=ps.length:=by rw [rxs.len,List.length_map]
 refine ⟨_,rfl,pp,_,rfl,.inl (SqL.of exs),_,_,rfl,rfl,_,rfl,?_⟩
 by_cases h3:ps.length < 3
 ·exact ifT (decide_eq_true (show ((xs.length:Nat):Int) < 3 by omega)) (q H1 (Same.fr1 s1))
 refine ifF (decide_eq_false (show¬((xs.length:Nat):Int) < 3 by omega)) ?_
 have h3':ps.length=3:=by omega
 obtain ⟨a0,a1,a2,k0,k1,k2,w0,w1,w2,v0,v1,v2,u0,u1,u2,rfl,ep,e0,e1,e2,r0,_,r1,_,r2,_⟩:=three_parts pl h3'
 clear exs rxs hxl pl xs
 have kk0:KeyT k0:=(kp (k0,w0) (by simp)).1
 have kk1:KeyT k1:=(kp (k1,w1) (by simp)).1
 have kk2:KeyT k2:=(kp (k2,w2) (by simp)).1
 refine ⟨_,rfl,c,64,rfl,by decide,by decide,fun x1 x10 x11=>?_⟩
 refine ⟨_,_,rfl,rfl,(show (0:Int) < 60 by decide),_,_,rfl,rfl,?_⟩
 have c0:2≤2+x1 % 60:=by have:=Int.emod_nonneg x1 (show (60:Int)≠0 by decide);omega
 have c1:2+x1 % 60≤61:=by have:=Int.emod_lt_of_pos x1 (show (0:Int) < 60 by decide);omega
 show zaZ 4 (V.int (2+x1 % 60)) _ _ _
 generalize 2+x1 % 60=cnt at c0 c1
 have lp:∀{H':Hp},Same H1 H'→SqL K H' pp [.ref a0,.ref a1,.ref a2]:=fun z=>SqL.of (z _ _ ep)
 refine ⟨_,rfl,pp,_,_,_,rfl,rfl,lp (Same.refl _),rfl,a0,_,_,_,rfl,rfl,SqT.of e0,rfl,?_⟩
 refine ⟨_,rfl,_,rfl,c,65,rfl,by decide,by decide,fun x2 x20 x21=>?_⟩
 refine ⟨_,_,rfl,rfl,(show (0:Int) < 200 by decide),_,_,rfl,rfl,szl (show 5≤1000 by decide),fun pb hpb=>?_⟩
 have m0:0≤x2 % 200:=Int.emod_nonneg x2 (show (200:Int)≠0 by decide)
 have m1:x2 % 200 < 200:=Int.emod_lt_of_pos x2 (show (0:Int) < 200 by decide)
 obtain ⟨G1,eG,s2,rb⟩:=mkT (.cons r0 (.cons (.int 1) (.cons (.int 0) (.cons (.int 0) (.cons (.int (cnt+x2 % 200)) .nil))))) hpb
 show zaZ 5 (V.ref pb) _ (upd H1 pb (.tup [v0,.int 1,.int 0,.int 0,.int (cnt+x2 % 200)])) _
 rw [eG];clear eG
 have kw1:KeyT (.int 1):=zbe (by decide) (by decide)
 have i0:Sm (.int 0):=zbN (by decide) (by decide)
 have gb:Good (.tup [k0,.int 1,.int 0,.int 0,.int (cnt+x2 % 200)]):=zd5 kk0.md kw1.md i0 i0 (zbN (by omega) (by omega))
 have bb:BadB cnt (.tup [k0,.int 1,.int 0,.int 0,.int (cnt+x2 % 200)]):=fun nd e' _=>by
  cases nd with | mk b1 b2 b3 b4 b5=>
  cases e'
  show cnt≤cnt+x2 % 200
  omega
 generalize (Th.tup [k0,.int 1,.int 0,.int 0,.int (cnt+x2 % 200)])=tb at rb gb bb
 dsimp only [zaZ]
 refine zbj (fun σ H'=>∃(tb:Th) (vb:V),σ=[some (.ref a),some (.int c),some (.int m),some (.ref pp),some (.int cnt),some vb,none,none]∧Same H1 H'∧Rep H' tb vb∧Good tb∧BadB cnt tb) (fun N kN=>?_) ?_
 ·refine ⟨_,rfl,c,68,rfl,by decide,by decide,fun x3 _ _=>?_⟩
  refine ⟨_,_,rfl,rfl,(show (0:Int) < 3 by decide),rfl,_,rfl,?_⟩
  refine ifB (fun cc=>?_) (fun cc=>?_)
  ·exact ⟨_,rfl,_,rfl,_,rfl,c,m,cnt,rfl,c0,by omega,fun t v H' s' rt ok=>kN _ _ ⟨t,v,rfl,s2.trans s',rt,ok.1,ok.2.1⟩⟩
  ·exact kN _ _ ⟨tb,_,rfl,s2,rb,gb,bb⟩
 rintro σ H2 ⟨tb,vb,rfl,s12,rb,gb,bb⟩
 have s02:Same H H2:=s1.trans s12
 have vs2:=vs.same s02
 obtain ⟨kv2,vo2,_⟩:=vs2.vo
 obtain ⟨⟨dx,fs,eo,fl⟩,_⟩:=id vo2
 have hob:∀{H':Hp},Fr1 d H2 H'→H' a=some (.ins C dx fs):=fun fr=>fr _ _ (vs2.ne eo (by intro kv z;cases z)) eo
 have tup:∀{H':Hp},Fr1 d H2 H'→Tups H1 H':=fun fr=>(Same.tups s12).trans (vs2.tups fr)
 have lp2:∀{H':Hp},Fr1 d H2 H'→SqL K H' pp [.ref a0,.ref a1,.ref a2]:=fun fr=>SqL.of (vs2.lst fr (s12 _ _ ep))
 refine ⟨_,rfl,a,dx,fs,rfl,eo,fl.n2,_,rfl,a,d,[],tb,vb,rfl,vs2,by simp,rb,gb,cl,fun H3 f3 ft3 vs3=>?_⟩
 refine ⟨_,rfl,a,dx,fs,rfl,hob f3,fl.n2,_,rfl,pp,_,_,_,rfl,rfl,lp2 f3,rfl,a2,_,_,_,rfl,rfl,SqT.of (tup f3 _ _ e2),rfl,szl (show 5≤1000 by decide),fun p5 h5=>?_⟩
 obtain ⟨G2,eG,s4,rg⟩:=mkT (.cons (r2.keep (tup f3)) (.cons (.int 1) (.cons (.int 0) (.cons (.int 0) (.cons (.int 1) .nil))))) h5
 rw [eG];clear eG
 have rg':Rep G2 (z9 k2 (.int 1) 0 0 1) (.ref p5):=rg
 have hl3:(addT [] (zy tb) tb).length≤1:=zbf [] (zy tb) tb
 refine ⟨a,d,_,_,_,rfl,vs3.same s4,Nat.le_trans hl3 (by decide),rg',(zdC kk2).1,cl,fun H4 f4 ft4 vs4=>?_⟩
 have f24:Fr1 d H2 H4:=f3.trans ((Same.fr1 s4).trans f4)
 have hl4:=zbf (addT [] (zy tb) tb) (zy (z9 k2 (.int 1) 0 0 1)) (z9 k2 (.int 1) 0 0 1)
 have lb4:zL (addT (addT [] (zy tb) tb) (zy (z9 k2 (.int 1) 0 0 1)) (z9 k2 (.int 1) 0 0 1)) (zy tb)=some tb:=zaJ (zam ft3)
 generalize addT (addT [] (zy tb) tb) (zy (z9 k2 (.int 1) 0 0 1)) (z9 k2 (.int 1) 0 0 1)=cs4 at vs4 hl4 lb4
 refine ⟨szl (show 2≤1000 by decide),fun p6 h6=>?_⟩
 obtain ⟨G3,eG,s5,e6⟩:=mkLs (vs:=[.int (zy tb),.int (zy (z9 k2 (.int 1) 0 0 1))]) h6
 rw [eG];clear eG
 have f25:Fr1 d H2 G3:=f24.trans (Same.fr1 s5)
 have vs5:=vs4.same s5
 have p1:=(zax tb).1
 have p2:=(zax (z9 k2 (.int 1) 0 0 1)).1
 have p3:=(zax (z9 k0 (.int 1) 0 0 1)).1
 dsimp only [zaZ]
 refine zbj (fun σ H'=>∃(l r:Int) (pk:Addr) (cs:List (Int ×Th)),σ=[some (.ref a),some (.int c),some (.int m),some (.ref pp),some (.int cnt),some vb,some (.ref pk),none]∧Fr1 d H2 H'∧VS H' C a d cs∧cs.length≤4∧H' pk=some (.lst [.int l,.int r])∧1≤l∧l≤10 ^ 30∧1≤r∧r≤10 ^ 30∧(zL cs l=some tb∨(zL cs l=some (z9 k0 (.int 1) 0 0 1)∧zL cs r=some tb))) (fun N kN=>?_) ?_
 ·refine ⟨_,rfl,c,69,rfl,by decide,by decide,fun x3 _ _=>?_⟩
  refine ⟨_,_,rfl,rfl,(show (0:Int) < 2 by decide),rfl,_,rfl,?_⟩
  have q1:=(zax tb).2
  have q2:=(zax (z9 k2 (.int 1) 0 0 1)).2
  have q3:=(zax (z9 k0 (.int 1) 0 0 1)).2
  refine ifB (fun cc=>?_) (fun cc=>?_)
  ·refine ⟨_,rfl,a,dx,fs,rfl,hob f25,fl.n2,_,rfl,pp,_,_,_,rfl,rfl,lp2 f25,rfl,a0,_,_,_,rfl,rfl,SqT.of (tup f25 _ _ e0),rfl,szl (show 5≤1000 by decide),fun p7 h7=>?_⟩
   obtain ⟨G4,eG,s6,rg2⟩:=mkT (.cons (r0.keep (tup f25)) (.cons (.int 1) (.cons (.int 0) (.cons (.int 0) (.cons (.int 1) .nil))))) h7
   rw [eG];clear eG
   have rg2':Rep G4 (z9 k0 (.int 1) 0 0 1) (.ref p7):=rg2
   refine ⟨a,d,_,_,_,rfl,vs5.same s6,by omega,rg2',(zdC kk0).1,cl,fun H7 f7 ft7 vs7=>?_⟩
   have f27:Fr1 d H2 H7:=f25.trans ((Same.fr1 s6).trans f7)
   have hl7:=zbf cs4 (zy (z9 k0 (.int 1) 0 0 1)) (z9 k0 (.int 1) 0 0 1)
   refine ⟨_,rfl,a,dx,fs,rfl,hob f27,fl.n2,_,rfl,a,d,_,tb,vb,rfl,vs7,by omega,rb.keep (vs2.tups f27),gb,cl,fun H8 f8 ft8 vs8=>?_⟩
   have f28:Fr1 d H2 H8:=f27.trans f8
   refine ⟨szl (show 2≤1000 by decide),fun p8 h8=>?_⟩
   obtain ⟨G5,eG,s9,e9⟩:=mkLs (vs:=[.int (zy (z9 k0 (.int 1) 0 0 1)),.int (zy tb)]) h8
   rw [eG];clear eG
   have hl8:=zbf (addT cs4 (zy (z9 k0 (.int 1) 0 0 1)) (z9 k0 (.int 1) 0 0 1)) (zy tb) tb
   exact kN _ _ ⟨_,_,p8,_,rfl,f28.trans (Same.fr1 s9),vs8.same s9,by omega,e9,p3,by omega,p1,by omega,.inr ⟨zaJ (zam ft7),zam ft8⟩⟩
  ·exact kN _ _ ⟨_,_,p6,_,rfl,f25,vs5,by omega,e6,p1,by omega,p2,by omega,.inl lb4⟩
 rintro σ H3 ⟨l,r,pk,cs,rfl,f3',vs3',hcs,ek,l1,l2,r1',r2',hlr⟩
 refine ⟨_,rfl,a,dx,fs,rfl,hob f3',fl.n2,_,rfl,pp,_,_,_,rfl,rfl,lp2 f3',rfl,a1,_,_,_,rfl,rfl,SqT.of (tup f3' _ _ e1),rfl,_,rfl,pk,_,_,_,rfl,rfl,SqL.of ek,rfl,_,rfl,pk,_,_,_,rfl,rfl,SqL.of ek,rfl,_,rfl,szl (show 5≤1000 by decide),fun p9 h9=>?_⟩
 obtain ⟨G6,eG,s7,rn⟩:=mkT (.cons (r1.keep (tup f3')) (.cons (.int 1) (.cons (.int l) (.cons (.int r) (.cons (.int cnt) .nil))))) h9
 rw [eG];clear eG
 have rn':Rep G6 (Nd.th ⟨k1,.int 1,l,r,cnt⟩) (.ref p9):=rn
 obtain ⟨nok,ngd⟩:=zaH (k:=k1) (wo:=.int 1) (l:=l) (r:=r) (c:=cnt) kk1 kw1 (by omega) l2 (by omega) r2' (by omega) (by omega)
 refine ⟨a,d,cs,_,_,rfl,vs3'.same s7,by omega,rn',ngd,cl,fun H4' f4' ft4' vs4'=>?_⟩
 have f24':Fr1 d H2 H4':=f3'.trans ((Same.fr1 s7).trans f4')
 have ln:zL (addT cs (zy (Nd.th ⟨k1,.int 1,l,r,cnt⟩)) (Nd.th ⟨k1,.int 1,l,r,cnt⟩)) (zy (Nd.th ⟨k1,.int 1,l,r,cnt⟩))=some (Nd.th ⟨k1,.int 1,l,r,cnt⟩):=zam ft4'
 have hlr':zL (addT cs (zy (Nd.th ⟨k1,.int 1,l,r,cnt⟩)) (Nd.th ⟨k1,.int 1,l,r,cnt⟩)) l=some tb∨(zL (addT cs (zy (Nd.th ⟨k1,.int 1,l,r,cnt⟩)) (Nd.th ⟨k1,.int 1,l,r,cnt⟩)) l=some (z9 k0 (.int 1) 0 0 1)∧zL (addT cs (zy (Nd.th ⟨k1,.int 1,l,r,cnt⟩)) (Nd.th ⟨k1,.int 1,l,r,cnt⟩)) r=some tb):=by
  rcases hlr with h | ⟨h,h'⟩
  ·exact .inl (zaJ h)
  ·exact .inr ⟨zaJ h,zaJ h'⟩
 have pn:=(zax (Nd.th ⟨k1,.int 1,l,r,cnt⟩)).1
 generalize zy (Nd.th ⟨k1,.int 1,l,r,cnt⟩)=root at vs4' ln hlr' pn
 generalize addT cs root (Nd.th ⟨k1,.int 1,l,r,cnt⟩)=cs' at vs4' ln hlr'
 have eb:ben cs' root 301=.ok ⟨k1,.int 1,l,r,cnt⟩:=zc4 ln nok (show cnt < 301 by omega)
 have rf:RefW cs' root 2 k1 true:=by
  refine .inr (.inr (.inl ⟨rfl,.inr ⟨⟨k1,.int 1,l,r,cnt⟩,by omega,eb,rfl,show l≠0 by omega,show r≠0 by omega,?_⟩⟩))
  rcases hlr' with h | ⟨h,h'⟩
  ·exact .inl (zcO h bb)
  ·exact .inr ⟨⟨k0,.int 1,0,0,1⟩,zc4 h (zdC kk0).2 (show (1:Int) < cnt by omega),zcO h' bb⟩
 have rk4:=r1.keep (tup f24')
 refine ⟨_,rfl,_,rfl,_,rfl,pp,_,_,_,rfl,rfl,lp2 f24',rfl,a1,_,_,_,rfl,rfl,SqT.of (tup f24' _ _ e1),rfl,a,d,cs',root,2,k1,_,true,rfl,vs4',rk4,kk1,rf,fun H5 s5'=>⟨_,rfl,ifT rfl ?_⟩⟩
 have f25':Fr1 d H2 H5:=f24'.trans (Same.fr1 s5')
 refine ⟨_,rfl,_,rfl,_,rfl,pp,_,_,_,rfl,rfl,lp2 f25',rfl,a1,_,_,_,rfl,rfl,SqT.of (tup f25' _ _ e1),rfl,a,d,cs',root,k1,_,_,none,rfl,vs4'.same s5',.own (by omega) eb kk1 rfl,by simp,rk4.keep (Same.tups s5'),kk1,fun _=>⟨[],_,rfl,rfl,fun v H6 s6 rv=>?_⟩,(by intro b' H' e;cases e)⟩
 cases rv
 exact ⟨rfl,q H6 ((Same.fr1 s02).trans (f25'.trans (Same.fr1 s6)))⟩
end
end Pv
namespace Pv
open PySem L2
abbrev zch:Stmt:=top 74
theorem zT:zv ["keeper","cell","way","pairs","low","own","high","left","right","root","worths","many","due"] ["keeper","cell","way"] (zg zch):=⟨rfl,rfl,rfl,by decide+kernel,rfl,by decide+kernel,by decide+kernel⟩
theorem zaW (k:Th):zaB .non k=true:=by
 unfold zaB
 rw [decide_eq_true (show Th.non=.non from rfl)];rfl
theorem zbr (k:Th):zap .non k=true:=by
 unfold zap
 rw [decide_eq_true (show Th.non=.non from rfl)];rfl
theorem zdI {x k:Th}(h:KeyT x):zap x k=zh x k:=by
 unfold zap
 rw [decide_eq_false h.ne];rfl
theorem zdu {x k:Th}(h:KeyT x):zaB x k=zh k x:=by
 unfold zaB
 rw [decide_eq_false h.ne];rfl
structure zaF (cs:List (Int ×Th))(k0 k1 k2 w0 w1 w2:Th)(l r root cnt:Int):Prop where
 q0:KeyT k0
 q1:KeyT k1
 q2:KeyT k2
 a01:zh k0 k1=true
 a02:zh k0 k2=true
 a12:zh k1 k2=true
 b0:ben cs l cnt=.ok ⟨k0,w0,0,0,1⟩
 b2:ben cs r cnt=.ok ⟨k2,w2,0,0,1⟩
 b1:ben cs root 301=.ok ⟨k1,w1,l,r,cnt⟩
 l0:l≠0
 r0:r≠0
 n0:root≠0
 c4:4≤cnt
section
variable {cs:List (Int ×Th)}{k0 k1 k2 w0 w1 w2:Th}{l r root cnt:Int}
theorem zgl {x y:Th}(h:zh x y=true):x≠y:=fun z=>by rw [z,zab] at h;cases h
theorem zaF.way0 (u:zaF cs k0 k1 k2 w0 w1 w2 l r root cnt):Way cs k0 root 301 [⟨k1,w1,l,r,cnt⟩,⟨k0,w0,0,0,1⟩] none:=by
 refine .step u.n0 u.b1 u.q1 (Ne.symm (zgl u.a01)) ?_
 rw [if_neg (show¬zh k1 k0=true by rw [zag u.a01];exact Bool.false_ne_true)]
 exact .own u.l0 u.b0 u.q0 rfl
theorem zaF.way1 (u:zaF cs k0 k1 k2 w0 w1 w2 l r root cnt):Way cs k1 root 301 [⟨k1,w1,l,r,cnt⟩] none:=.own u.n0 u.b1 u.q1 rfl
theorem zaF.way2 (u:zaF cs k0 k1 k2 w0 w1 w2 l r root cnt):Way cs k2 root 301 [⟨k1,w1,l,r,cnt⟩,⟨k2,w2,0,0,1⟩] none:=by
 refine .step u.n0 u.b1 u.q1 (zgl u.a12) ?_
 rw [if_pos (show zh k1 k2=true from u.a12)]
 exact .own u.r0 u.b2 u.q2 rfl
theorem zaF.sl (u:zaF cs k0 k1 k2 w0 w1 w2 l r root cnt):zai cs l cnt=.ok 1:=by rw [zbV u.l0,u.b0];rfl
theorem zaF.sr (u:zaF cs k0 k1 k2 w0 w1 w2 l r root cnt):zai cs r cnt=.ok 1:=by rw [zbV u.r0,u.b2];rfl
theorem zeq (cs:List (Int ×Th))(m:Int):zai cs 0 m=.ok 0:=if_pos rfl
theorem zaF.whole (u:zaF cs k0 k1 k2 w0 w1 w2 l r root cnt):StW cs .non .non 0 root [] [] 301 (.error true):=by
 refine .sum u.n0 u.b1 u.q1 (zbr _) (zaW _) (.inr (.inr ⟨1,1,u.sl,u.sr,?_,rfl⟩))
 have:=u.c4
 show (1:Int)+1+1≠cnt
 omega
theorem zaF.right (u:zaF cs k0 k1 k2 w0 w1 w2 l r root cnt):StW cs k1 .non 4 root [] [] 301 (.ok [(k1,w1),(k2,w2)]):=by
 have g1:zap k1 k1=false:=by rw [zdI u.q1];exact zab k1
 have g2:zap k1 k2=true:=by rw [zdI u.q1];exact u.a12
 have i1:inB k1 .non ⟨k1,w1,l,r,cnt⟩=true:=by
  unfold inB
  rw [zaW,show zh k1 k1=false from zab k1];simp
 have i2:inB k1 .non ⟨k2,w2,0,0,1⟩=true:=by
  unfold inB
  rw [zaW,show zh k2 k1=false from zag u.a12];simp
 refine .push (nd:=⟨k1,w1,l,r,cnt⟩) u.n0 u.b1 u.q1 (fun z=>by rw [show zap k1 k1=false from g1] at z;cases z) ?_
 rw [show zap k1 k1=false from g1,if_neg Bool.false_ne_true]
 refine .pop (bg:=[]) (nd:=⟨k1,w1,l,r,cnt⟩) u.q1 ?_
 rw [zaW,if_pos rfl,i1,if_pos rfl]
 refine .push (nd:=⟨k2,w2,0,0,1⟩) u.r0 u.b2 u.q2 (fun _ _=>⟨0,0,zeq _ _,zeq _ _,rfl⟩) ?_
 rw [show zap k1 k2=true from g2,if_pos rfl]
 refine .pop (bg:=[]) (nd:=⟨k2,w2,0,0,1⟩) u.q2 ?_
 rw [zaW,if_pos rfl,i2,if_pos rfl]
 exact .done
theorem zaF.left (u:zaF cs k0 k1 k2 w0 w1 w2 l r root cnt):StW cs .non k1 4 root [] [] 301 (.ok [(k0,w0)]):=by
 have g1:zaB k1 k1=false:=by rw [zdu u.q1];exact zab k1
 have g0:zaB k1 k0=true:=by rw [zdu u.q1];exact u.a01
 have i1:inB .non k1 ⟨k1,w1,l,r,cnt⟩=false:=by
  unfold inB
  rw [show zaB k1 k1=false from g1];rfl
 have i0:inB .non k1 ⟨k0,w0,0,0,1⟩=true:=by
  unfold inB
  rw [show zaB k1 k0=true from g0,decide_eq_true (show Th.non=.non from rfl)];rfl
 refine .push (nd:=⟨k1,w1,l,r,cnt⟩) u.n0 u.b1 u.q1 (fun _ z=>by rw [show zaB k1 k1=false from g1] at z;cases z) ?_
 rw [zbr,if_pos rfl]
 refine .push (nd:=⟨k0,w0,0,0,1⟩) u.l0 u.b0 u.q0 (fun _ _=>⟨0,0,zeq _ _,zeq _ _,rfl⟩) ?_
 rw [zbr,if_pos rfl]
 refine .pop (bg:=[⟨k1,w1,l,r,cnt⟩]) (nd:=⟨k0,w0,0,0,1⟩) u.q0 ?_
 rw [show zaB k1 k0=true from g0,if_pos rfl,i0,if_pos rfl]
 refine .pop (bg:=[]) (nd:=⟨k1,w1,l,r,cnt⟩) u.q1 ?_
 rw [show zaB k1 k1=false from g1,i1,if_neg Bool.false_ne_true,if_neg Bool.false_ne_true]
 exact .done
end
theorem zd3 {p:Th ×Th}(h:KeyT p.1∧KeyT p.2):dep (zZ p)≤50:=by
 have:=h.1.dp
 have:=h.2.dp
 show max (dep p.1) (max (dep p.2) 0)+1≤50
 omega
theorem ne_self {ts:List Th}:(!eqL ts ts)=false:=by
 show (!eqT (.tup ts) (.tup ts))=false
 rw [zao];rfl
section
variable {P:Program}{w:World}{K:PySem.W.Frag}{mg:Str→Option Value}{base:Heap}{C CC CN CB:Addr}{x:Str}{t1 t2 t3 t4 t5 t6 t7:Tok}
theorem zhO (D:Dfn K mg "_law_uneven" zch ["keeper","cell","way"]) (F_law_three:Fn P w K mg base "_law_three" 13 ["cell","way"] zfD) (F_law_mix:Fn P w K mg base "_law_mix" 1 ["cell","k"] zeI) (M_lay:Mt P w K mg base (CX1 P w) C "lay" 14 ["self","thing"] (zed C CC)) (c_C:Cls K C) (F_law_refused:Fn P w K mg base "_law_refused" 27 ["vault","root","way","key","due"] (ze0 C)) (F_found:FnX P w K mg base "found" 23 ["vault","root","key"] (zcs C CN CB)) (F_stretch:FnX P w K mg base "stretch" 22 ["vault","root","low","high"] (zbt C CN CB)) (F_counted:FnX P w K mg base "counted" 24 ["vault","root","low","high"] (zb8 C CN CB)) (F_cut:FnX P w K mg base "cut" 23 ["vault","root","key"] (zgL C CC CN CB))
  (F_above:Fn P w K mg base "above" 21 ["key","other"] zfk) (F_seal:Fn P w K mg base "seal" 13 ["thing"] zdy) (m_len:mg "len" =none) (m_isinstance:mg "isinstance" =none) (m_int:mg "int" =none):FnX P w K mg base "_law_uneven" 28 ["keeper","cell","way"] (ze5 C CC):=by
 refine D.okX (k:=27) zT (fun vs H Q E h=>?_) (fun f cdv A outer s H vs Q E hr h=>?_)
 ·obtain ⟨a,d,c,m,rfl,_⟩:=h;rfl
 obtain ⟨a,d,c,m,rfl,vs,cl,q⟩:=h
 refine ⟨_,(zd (zj (i:=3) zT.nd rfl (Or.inl rfl) (zC F_law_three hr (by omega) (by rfl) (za (pv 1) (za (pv 2) zc))))
 (zd (zE (zw zcJ (zF (zI) (by rfl) m_len (by rfl) (za (pv 3) zc)) zb (zt _))
 (ze (zl zaM))
 zu)
 (zd (zlf (zdj (zX.zero (by rfl) (by decide+kernel) (by decide+kernel) (by decide+kernel) (by rfl)) rfl (zcm (pv 3)) (fun _ _ _=>zcL) (fun _ _ _=>(zm (zg2 (K:=K) rfl) (pv 0) zb (fun _ _=>rfl)))) (zku rfl (zcB (z7 (i:=4) zT.nd rfl (Or.inl rfl)) (zcB (z7 (i:=5) zT.nd rfl (Or.inl rfl)) (zcB (z7 (i:=6) zT.nd rfl (Or.inl rfl)) zhn)))))
 (zd (zj (i:=7) zT.nd rfl (Or.inl rfl) (zbR (pv 0) c_C M_lay hr (by omega) zD (za (zJ (za (pv 4) (za (zm zA (zm zB (pv 3) zb (fun _ _=>rfl)) zb (fun _ _=>rfl)) (za zb (za zb (za zb zc)))))) zc)))
 (zd (zj (i:=8) zT.nd rfl (Or.inl rfl) (zbR (pv 0) c_C M_lay hr (by omega) zD (za (zJ (za (pv 6) (za (zm zA (zm zB (pv 3) zb (fun _ _=>rfl)) zb (fun _ _=>rfl)) (za zb (za zb (za zb zc)))))) zc)))
 (zd (zj (i:=9) zT.nd rfl (Or.inr rfl) (zbR (pv 0) c_C M_lay hr (by omega) zD (za (zJ (za (pv 5) (za (zm zA (zm zB (pv 3) zb (fun _ _=>rfl)) zb (fun _ _=>rfl)) (za (pv 7) (za (pv 8) (za (zo zO zb (zo z8 (zC F_law_mix hr (by omega) (by rfl) (za (pv 1) (za zb zc))) zb)) zc)))))) zc)))
 (zd (zfZ (i:=10) (zX.two (y1:= "root") (y2:= "keeper") (j1:=9) (j2:=0) (c1:=s.heap.objs.size+2) (c2:=s.heap.objs.size+1) (by rfl) (by rfl) (by decide+kernel) (by decide+kernel) (by rfl) (by decide+kernel) (by decide+kernel) (by decide+kernel) (by rfl) (by rfl) (by decide+kernel) (by rfl) (by rfl) (by first | exact Or.inl rfl | exact Or.inr rfl) (by first | exact Or.inl rfl | exact Or.inr rfl) (by first | exact Or.inl rfl | exact Or.inr rfl) (by first | exact Or.inl rfl | exact Or.inr rfl)) rfl (zeu (zJ (za (pv 4) (za (pv 5) (za (pv 6) zc))))) (fun _ _ _=>zcL) (fun _ _ _=>(zH F_found hr (by omega) (by rfl) za7 (za (pv 2) (za (pv 1) (za (pv 0) zc))))) zT.nd rfl (Or.inl rfl) (by rfl))
 (zd (zE (PW.pt (zbS (zbs (zS (zC F_law_refused hr (by omega) (by rfl) (za (pv 0) (za (pv 9) (za zb (za (pv 5) (za zah zc)))))))) (zbx (zw (zfb hr) (pv 10) (zdj (zX.zero (by rfl) (by decide+kernel) (by decide+kernel) (by decide+kernel) (by rfl)) rfl (zcm (pv 3)) (fun _ _ _=>zcL) (fun _ _ _=>(zm (zg2 (K:=K) rfl) (pv 0) zb (fun _ _=>rfl)))) (zt _)))))
 (ze (zl zaM))
 zu)
 (zd (zE (PW.pt (zbS (zw (zfb hr) (zH F_stretch hr (by omega) (by rfl) za7 (za (pv 0) (za (pv 9) (za (pv 5) (za zP zc))))) (za1 zbC (pv 3) (zaY zb) zcf) (zt _)) (zbx (zw (zfb hr) (zH F_stretch hr (by omega) (by rfl) za7 (za (pv 0) (za (pv 9) (za zP (za (pv 5) zc))))) (za1 zbC (pv 3) zcf (zaY zb)) (zt _)))))
 (ze (zl zaM))
 zu)
 (zd (zj (i:=11) zT.nd rfl (Or.inl rfl) (zH F_counted hr (by omega) (by rfl) za7 (za (pv 0) (za (pv 9) (za (pv 4) (za (pv 6) zc))))))
 (zd (zj (i:=12) zT.nd rfl (Or.inl rfl) (zJ (za (pv 6) (za (zm zA (zm zB (pv 3) zb (fun _ _=>rfl)) zb (fun _ _=>rfl)) (za (pv 7) (za zb (za zb zc)))))))
 (zd (zE (zS (zC F_above hr (by omega) (by rfl) (za (pv 4) (za (pv 6) zc))))
 (ze (zj (i:=12) zT.nd rfl (Or.inl rfl) (zJ (za (pv 4) (za (zm zA (zm zB (pv 3) zb (fun _ _=>rfl)) zb (fun _ _=>rfl)) (za zb (za (pv 8) (za zb zc))))))))
 zu)
 (ze (zl (zbl (zF (zae) (by rfl) m_isinstance (by rfl) (za (pv 11) (za (zaD (v:=.ty "int") (by rfl) m_int (by rfl) rfl) zc))) (zba (zQ zac (zH F_cut hr (by omega) (by rfl) zD (za (pv 0) (za (pv 9) (za (pv 5) zc)))) (zC F_seal hr (by omega) (by rfl) (za (pv 12) zc)) (zt _)))))))))))))))))),?_⟩
 refine ⟨_,rfl,_,rfl,c,m,rfl,fun pp ps H1 s1 pl so kp hl hw=>?_⟩
 obtain ⟨xs,exs,rxs⟩:=pl.ex
 have hxl:xs.length=ps.length:=by rw [rxs.len,List.length_map]
 refine ⟨_,rfl,pp,_,rfl,.inl (SqL.of exs),_,_,rfl,rfl,_,rfl,?_⟩
 by_cases h3:ps.length < 3
 ·exact ifT (decide_eq_true (show ((xs.length:Nat):Int) < 3 by omega)) (q H1 (Same.fr1 s1))
 refine ifF (decide_eq_false (show¬((xs.length:Nat):Int) < 3 by omega)) ?_
 have h3':ps.length=3:=by omega
 obtain ⟨a0,a1,a2,k0,k1,k2,w0,w1,w2,v0,v1,v2,u0,u1,u2,rfl,ep,e0,e1,e2,r0,q0,r1,q1,r2,q2⟩:=three_parts pl h3'
 clear exs hxl pl
 have kp0:=kp (k0,w0) (by simp)
 have kp1:=kp (k1,w1) (by simp)
 have kp2:=kp (k2,w2) (by simp)
 have a01:zh k0 k1=true:=(List.pairwise_cons.mp so).1 (k1,w1) (by simp)
 have a02:zh k0 k2=true:=(List.pairwise_cons.mp so).1 (k2,w2) (by simp)
 have a12:zh k1 k2=true:=(List.pairwise_cons.mp (List.pairwise_cons.mp so).2).1 (k2,w2) (by simp)
 refine ⟨_,rfl,pp,rfl,⟨_,SqL.of ep⟩,fun pz hpz=>?_⟩
 have tgt:∀i y,[V.ref a0,V.ref a1,V.ref a2][i]? =some y→∃a u,y=.ref a∧H1 a=some (.tup [[v0,v1,v2].getD i .non,u]):=fun i y hy=>by
  match i,hy with
  | 0,hy=>cases hy;exact ⟨_,_,rfl,e0⟩
  | 1,hy=>cases hy;exact ⟨_,_,rfl,e1⟩
  | 2,hy=>cases hy;exact ⟨_,_,rfl,e2⟩
  | n+3,hy=>cases hy
 have tgt2:∀i y,[V.ref a0,V.ref a1,V.ref a2][i]? =some y→∃a u,y=.ref a∧H1 a=some (.tup [u,[u0,u1,u2].getD i .non]):=fun i y hy=>by
  match i,hy with
  | 0,hy=>cases hy;exact ⟨_,_,rfl,e0⟩
  | 1,hy=>cases hy;exact ⟨_,_,rfl,e1⟩
  | 2,hy=>cases hy;exact ⟨_,_,rfl,e2⟩
  | n+3,hy=>cases hy
 have tk3:∀(zs:List V) (i:Nat),zs.length=3→i < 3→zs.take i++ [zs.getD i .non]=zs.take (i+1):=fun zs i h h'=>by
  rw [List.take_add_one,List.getElem?_eq_getElem (by omega)]
  simp [List.getD,List.getElem?_eq_getElem (show i < zs.length by omega)]
 refine zcS (n:=3) (fun i acc H'=>Same H1 H'∧H' pz=some (.lst acc)∧acc=[v0,v1,v2].take i) ⟨zk (Same.refl H1) hpz,zf,rfl⟩ ?_ ?_ ?_ ?_
 ·rintro i acc H' hi ⟨sm,ez,_⟩
  exact ⟨_,_,SqL.of (sm _ _ ep),List.getElem?_eq_getElem hi⟩
 ·rintro acc H' ⟨sm,ez,_⟩
  exact ⟨_,SqL.of (sm _ _ ep),Nat.le_refl _⟩
 ·rintro i acc H' y H'' hi ⟨sm,ez,ea⟩ ⟨z1,z2⟩
  subst z1
  obtain ⟨b,u,rfl,eb⟩:=tgt i y (z2 _ (SqL.of (sm _ _ ep)))
  refine tt1 ?_
  refine ⟨_,rfl,b,_,_,_,rfl,rfl,SqT.of (sm _ _ eb),rfl,ez,Nat.lt_of_lt_of_le (show acc.length < 1000 by rw [ea,List.length_take];omega) (szl (Nat.le_refl _)),nxt hi ⟨zaw sm hpz,zf,?_⟩⟩
  rw [ea]
  exact tk3 _ i rfl hi
 rintro acc H2 ⟨s2,ez,ea⟩
 subst ea
 refine ⟨pz,_,rfl,SqL.of ez,rfl,_,_,rfl,_,_,rfl,_,_,rfl,rfl,?_⟩
 have s02:Same H H2:=s1.trans s2
 have vs2:=vs.same s02
 obtain ⟨kv2,vo2,_⟩:=vs2.vo
 obtain ⟨⟨dx,fs,eo,fl⟩,_⟩:=id vo2
 have hob:∀{H':Hp},Fr1 d H2 H'→H' a=some (.ins C dx fs):=fun fr=>fr _ _ (vs2.ne eo (by intro kv z;cases z)) eo
 have tup:∀{H':Hp},Fr1 d H2 H'→Tups H1 H':=fun fr=>(Same.tups s2).trans (vs2.tups fr)
 have lp:∀{H':Hp},Fr1 d H2 H'→H' pp=some (.lst [.ref a0,.ref a1,.ref a2]):=fun fr=>vs2.lst fr (s2 _ _ ep)
 have f0:=Fr1.refl d H2
 refine ⟨_,rfl,a,dx,fs,rfl,eo,fl.n2,_,rfl,_,rfl,pp,_,_,_,rfl,rfl,SqL.of (lp f0),rfl,a0,_,_,_,rfl,rfl,SqT.of (tup f0 _ _ e0),rfl,szl (show 5≤1000 by decide),fun p3 h3=>?_⟩
 obtain ⟨G1,eG,t1',rn0⟩:=mkT (.cons (r0.keep (tup f0)) (.cons (q0.keep (tup f0)) (.cons (.int 0) (.cons (.int 0) (.cons (.int 1) .nil))))) h3
 rw [eG];clear eG
 have rn0':Rep G1 (Nd.th ⟨k0,w0,0,0,1⟩) (.ref p3):=rn0
 obtain ⟨nok0,ngd0⟩:=zaH (k:=k0) (wo:=w0) (l:=0) (r:=0) (c:=1) kp0.1 kp0.2 (by decide) (by decide) (by decide) (by decide) (by decide) (by decide)
 refine ⟨a,d,[],_,_,rfl,vs2.same t1',by simp,rn0',ngd0,cl,fun H3 f3 ft3 vs3=>?_⟩
 have f23:Fr1 d H2 H3:=(Same.fr1 t1').trans f3
 have hl3:(addT [] (zy (Nd.th ⟨k0,w0,0,0,1⟩)) (Nd.th ⟨k0,w0,0,0,1⟩)).length≤1:=zbf [] _ _
 have lk0:=zam ft3
 have sp0:=zax (Nd.th ⟨k0,w0,0,0,1⟩)
 generalize addT [] (zy (Nd.th ⟨k0,w0,0,0,1⟩)) (Nd.th ⟨k0,w0,0,0,1⟩)=cs3 at vs3 hl3 lk0
 generalize zy (Nd.th ⟨k0,w0,0,0,1⟩)=left at lk0 sp0
 refine ⟨_,rfl,a,dx,fs,rfl,hob f23,fl.n2,_,rfl,_,rfl,pp,_,_,_,rfl,rfl,SqL.of (lp f23),rfl,a2,_,_,_,rfl,rfl,SqT.of (tup f23 _ _ e2),rfl,szl (show 5≤1000 by decide),fun p4 h4=>?_⟩
 obtain ⟨G2,eG,t2',rn2⟩:=mkT (.cons (r2.keep (tup f23)) (.cons (q2.keep (tup f23)) (.cons (.int 0) (.cons (.int 0) (.cons (.int 1) .nil))))) h4
 rw [eG];clear eG
 have rn2':Rep G2 (Nd.th ⟨k2,w2,0,0,1⟩) (.ref p4):=rn2
 obtain ⟨nok2,ngd2⟩:=zaH (k:=k2) (wo:=w2) (l:=0) (r:=0) (c:=1) kp2.1 kp2.2 (by decide) (by decide) (by decide) (by decide) (by decide) (by decide)
 refine ⟨a,d,cs3,_,_,rfl,vs3.same t2',by omega,rn2',ngd2,cl,fun H4 f4 ft4 vs4=>?_⟩
 have f24:Fr1 d H2 H4:=f23.trans ((Same.fr1 t2').trans f4)
 have hl4:=zbf cs3 (zy (Nd.th ⟨k2,w2,0,0,1⟩)) (Nd.th ⟨k2,w2,0,0,1⟩)
 have lk0':zL (addT cs3 (zy (Nd.th ⟨k2,w2,0,0,1⟩)) (Nd.th ⟨k2,w2,0,0,1⟩)) left=_:=zaJ lk0
 have lk2:=zam ft4
 have sp2:=zax (Nd.th ⟨k2,w2,0,0,1⟩)
 generalize addT cs3 (zy (Nd.th ⟨k2,w2,0,0,1⟩)) (Nd.th ⟨k2,w2,0,0,1⟩)=cs4 at vs4 hl4 lk0' lk2
 generalize zy (Nd.th ⟨k2,w2,0,0,1⟩)=right at lk2 sp2
 refine ⟨_,rfl,a,dx,fs,rfl,hob f24,fl.n2,_,rfl,_,rfl,pp,_,_,_,rfl,rfl,SqL.of (lp f24),rfl,a1,_,_,_,rfl,rfl,SqT.of (tup f24 _ _ e1),rfl,_,rfl,_,rfl,_,rfl,c,63,rfl,by decide,by decide,fun x1 _ _=>?_⟩
 refine ⟨_,_,rfl,rfl,(show (0:Int) < 200 by decide),_,_,rfl,rfl,szl (show 5≤1000 by decide),fun p5 h5=>?_⟩
 have c0:4≤4+x1 % 200:=by have:=Int.emod_nonneg x1 (show (200:Int)≠0 by decide);omega
 have c1:4+x1 % 200≤203:=by have:=Int.emod_lt_of_pos x1 (show (0:Int) < 200 by decide);omega
 obtain ⟨G3,eG,t3',rn1⟩:=mkT (.cons (r1.keep (tup f24)) (.cons (q1.keep (tup f24)) (.cons (.int left) (.cons (.int right) (.cons (.int (4+x1 % 200)) .nil))))) h5
 rw [eG];clear eG
 generalize 4+x1 % 200=cnt at c0 c1 rn1
 have rn1':Rep G3 (Nd.th ⟨k1,w1,left,right,cnt⟩) (.ref p5):=rn1
 obtain ⟨nok1,ngd1⟩:=zaH (k:=k1) (wo:=w1) (l:=left) (r:=right) (c:=cnt) kp1.1 kp1.2 (by omega) (by omega) (by omega) (by omega) (by omega) (by omega)
 refine ⟨a,d,cs4,_,_,rfl,vs4.same t3',by omega,rn1',ngd1,cl,fun H5 f5 ft5 vs5=>?_⟩
 have f25:Fr1 d H2 H5:=f24.trans ((Same.fr1 t3').trans f5)
 have hl5:=zbf cs4 (zy (Nd.th ⟨k1,w1,left,right,cnt⟩)) (Nd.th ⟨k1,w1,left,right,cnt⟩)
 have un:zaF (addT cs4 (zy (Nd.th ⟨k1,w1,left,right,cnt⟩)) (Nd.th ⟨k1,w1,left,right,cnt⟩)) k0 k1 k2 w0 w1 w2 left right (zy (Nd.th ⟨k1,w1,left,right,cnt⟩)) cnt:=by
  have sp1:=zax (Nd.th ⟨k1,w1,left,right,cnt⟩)
  exact ⟨kp0.1,kp1.1,kp2.1,a01,a02,a12,zc4 (nd:=⟨k0,w0,0,0,1⟩) (zaJ lk0') nok0 (show (1:Int) < cnt by omega),zc4 (nd:=⟨k2,w2,0,0,1⟩) (zaJ lk2) nok2 (show (1:Int) < cnt by omega),zc4 (nd:=⟨k1,w1,left,right,cnt⟩) (zam ft5) nok1 (show cnt < 301 by omega),by omega,by omega,by omega,c0⟩
 generalize addT cs4 (zy (Nd.th ⟨k1,w1,left,right,cnt⟩)) (Nd.th ⟨k1,w1,left,right,cnt⟩)=cs at vs5 hl5 un
 generalize zy (Nd.th ⟨k1,w1,left,right,cnt⟩)=root at un
 clear ft3 ft4 ft5 lk0 lk0' lk2 vs3 vs4 rn0 rn0' rn1 rn1' rn2 rn2'
 have rep0:∀{H':Hp},Same H5 H'→Rep H' k0 v0∧Rep H' k1 v1∧Rep H' k2 v2∧Rep H' w0 u0∧Rep H' w1 u1∧Rep H' w2 u2:=fun z=>by
  have t:=(tup f25).trans (Same.tups z)
  exact ⟨r0.keep t,r1.keep t,r2.keep t,q0.keep t,q1.keep t,q2.keep t⟩
 have ep5:=lp f25
 refine ⟨_,rfl,_,rfl,_,rfl,szl (show 3≤1000 by decide),fun pt hpt=>?_⟩
 have s6:=zk (o:=.tup [v0,v1,v2]) (Same.refl H5) hpt
 have et:upd H5 pt (.tup [v0,v1,v2]) pt=some (.tup [v0,v1,v2]):=zf
 generalize upd H5 pt (.tup [v0,v1,v2])=H6 at s6 et
 refine ⟨pt,rfl,⟨_,SqT.of et⟩,fun pw hpw=>?_⟩
 have tkt:∀(i:Nat),i < 3→[w0,w1,w2].take i++ [[w0,w1,w2].getD i .non]=[w0,w1,w2].take (i+1):=fun i h=>by
  match i,h with
  | 0,_=>rfl
  | 1,_=>rfl
  | 2,_=>rfl
 refine zcS (n:=3) (fun i acc H'=>Same H6 H'∧H' pw=some (.lst acc)∧RepL H' ([w0,w1,w2].take i) acc) ⟨zk (Same.refl H6) hpw,zf,.nil⟩ ?_ ?_ ?_ ?_
 ·rintro i acc H' hi ⟨sm,ez,_⟩
  exact ⟨_,_,SqT.of (sm _ _ et),List.getElem?_eq_getElem hi⟩
 ·rintro acc H' ⟨sm,ez,_⟩
  exact ⟨_,SqT.of (sm _ _ et),Nat.le_refl _⟩
 ·rintro i acc H' y H'' hi ⟨sm,ez,ra⟩ ⟨z1,z2⟩
  subst z1
  have ey:=z2 _ (SqT.of (sm _ _ et))
  have s5':Same H5 H'':=s6.trans sm
  obtain ⟨g0,g1,g2,_⟩:=rep0 s5'
  have key:∃k ns,Rep H'' k y∧KeyT k∧Way cs k root 301 ns none∧ns.length≤300∧∃pre nd,ns=pre++ [nd]∧nd.k=k∧nd.w=[w0,w1,w2].getD i .non:=by
   match i,ey with
   | 0,ey=>cases ey;exact ⟨k0,_,g0,un.q0,un.way0,by simp,[_],_,rfl,rfl,rfl⟩
   | 1,ey=>cases ey;exact ⟨k1,_,g1,un.q1,un.way1,by simp,[],_,rfl,rfl,rfl⟩
   | 2,ey=>cases ey;exact ⟨k2,_,g2,un.q2,un.way2,by simp,[_],_,rfl,rfl,rfl⟩
   | n+3,ey=>cases ey
  obtain ⟨k,ns,rk,kk,wy,hns,pre,nd,ens,ek,ew⟩:=key
  refine tt1 ?_
  refine ⟨_,rfl,_,rfl,_,rfl,a,d,cs,root,k,y,ns,none,rfl,vs5.same s5',wy,hns,rk,kk,fun _=>⟨pre,nd,ens,ek,fun v H3' s3' rv=>?_⟩,(by intro b' H' e;cases e)⟩
  rw [ew] at rv
  have ez3:=s3' _ _ ez
  have hal:acc.length≤3:=by rw [ra.len,List.length_take];exact Nat.min_le_right _ _
  have tk:Tups H3' (upd H3' pw (.lst (acc++ [v]))):=Tups.upd fun xs z=>by rw [ez3] at z;cases z
  refine ⟨ez3,Nat.lt_of_lt_of_le (show acc.length < 1000 by omega) (szl (Nat.le_refl _)),nxt hi ⟨zaw (sm.trans s3') hpw,zf,?_⟩⟩
  rw [←tkt i hi]
  exact ((ra.keep (Same.tups s3')).keep tk).snoc (rv.keep tk)
 rintro accw H7 ⟨s7,ew,rw⟩
 have s57:=s6.trans s7
 obtain ⟨g0,g1,g2,_⟩:=rep0 s57
 refine ⟨_,rfl,_,rfl,_,rfl,a,d,cs,root,7,k1,v1,true,rfl,vs5.same s57,g1,un.q1,.inr (.inr (.inr (.inr (.inr (.inr (.inr (.inl ⟨rfl,0,by decide,un.whole⟩))))))),fun H8 s8=>⟨_,rfl,ifF rfl ?_⟩⟩
 have s58:=s57.trans s8
 refine ⟨_,rfl,_,rfl,pp,rfl,⟨_,SqL.of (s58 _ _ ep5)⟩,fun pv hpv=>?_⟩
 refine zcS (n:=3) (fun i acc H'=>Same H8 H'∧H' pv=some (.lst acc)∧acc=[u0,u1,u2].take i) ⟨zk (Same.refl H8) hpv,zf,rfl⟩ ?_ ?_ ?_ ?_
 ·rintro i acc H' hi ⟨sm,ez,_⟩
  exact ⟨_,_,SqL.of (sm _ _ (s58 _ _ ep5)),List.getElem?_eq_getElem hi⟩
 ·rintro acc H' ⟨sm,ez,_⟩
  exact ⟨_,SqL.of (sm _ _ (s58 _ _ ep5)),Nat.le_refl _⟩
 ·rintro i acc H' y H'' hi ⟨sm,ez,ea⟩ ⟨z1,z2⟩
  subst z1
  obtain ⟨b,u,rfl,eb⟩:=tgt2 i y (z2 _ (SqL.of (sm _ _ (s58 _ _ ep5))))
  have eb':=sm _ _ (s58 _ _ (tup f25 _ _ eb))
  refine tt1 ?_
  refine ⟨_,rfl,b,_,_,_,rfl,rfl,SqT.of eb',rfl,ez,Nat.lt_of_lt_of_le (show acc.length < 1000 by rw [ea,List.length_take];omega) (szl (Nat.le_refl _)),nxt hi ⟨zaw sm hpv,zf,?_⟩⟩
  rw [ea]
  exact tk3 _ i rfl hi
 rintro acc H9 ⟨s9,ez9,ea⟩
 subst ea
 have s59:=s58.trans s9
 obtain ⟨g0,g1,g2,g3,g4,g5⟩:=rep0 s59
 have rw9:RepL H9 [w0,w1,w2] accw:=rw.keep (Same.tups (s8.trans s9))
 refine ⟨pw,pv,_,_,[w0,w1,w2],[w0,w1,w2],rfl,rfl,SqL.of (s9 _ _ (s8 _ _ ew)),SqL.of ez9,rw9,.cons g3 (.cons g4 (.cons g5 .nil)),(fun t ht=>?_),?_⟩
 ·simp only [List.mem_cons,List.not_mem_nil,or_false] at ht
  rcases ht with h | h | h <;> subst h
  ·exact Nat.le_trans kp0.2.dp (by decide)
  ·exact Nat.le_trans kp1.2.dp (by decide)
  ·exact Nat.le_trans kp2.2.dp (by decide)
 rw [ne_self]
 refine ⟨_,rfl,ifF rfl ?_⟩
 have vs9:=vs5.same s59
 have d1:=un.q1.dp
 refine ⟨_,rfl,_,rfl,_,rfl,a,d,cs,root,k1,.non,v1,_,rfl,vs9,g1,.non,d1,.inr ⟨zfi _,4,_,un.right,by decide,fun ps' e' p6 xs6 Ha sa _ e6 r6=>?_,(by intro b' H' e;cases e)⟩⟩
 cases e'
 have epa:=sa _ _ (s59 _ _ ep5)
 refine ⟨_,rfl,_,rfl,pp,_,rfl,SqL.of epa,fun p7 h7=>?_⟩
 obtain ⟨Hb,eG,sb,e7⟩:=mkLs (vs:=[V.ref a1,.ref a2]) h7
 have c1':cutV [V.ref a0,.ref a1,.ref a2] (some 1) none=[.ref a1,.ref a2]:=zfh (n:=1) (by simp)
 rw [c1',eG];clear eG c1'
 have s5b:=(s59.trans sa).trans sb
 have pr:∀{H':Hp},Same H5 H'→Rep H' (zZ (k0,w0)) (.ref a0)∧Rep H' (zZ (k1,w1)) (.ref a1)∧Rep H' (zZ (k2,w2)) (.ref a2):=fun z=>by
  have t:=(tup f25).trans (Same.tups z)
  have p3:RepL H1 [zZ (k0,w0),zZ (k1,w1),zZ (k2,w2)] xs:=rxs
  have m0:Rep H1 (zZ (k0,w0)) (.ref a0):=.tup e0 rfl (RepL.at (.cons r0 (.cons q0 .nil)))
  have m1:Rep H1 (zZ (k1,w1)) (.ref a1):=.tup e1 rfl (RepL.at (.cons r1 (.cons q1 .nil)))
  have m2:Rep H1 (zZ (k2,w2)) (.ref a2):=.tup e2 rfl (RepL.at (.cons r2 (.cons q2 .nil)))
  exact ⟨m0.keep t,m1.keep t,m2.keep t⟩
 obtain ⟨b0,b1,b2⟩:=pr s5b
 have r6b:RepL Hb [zZ (k1,w1),zZ (k2,w2)] xs6:=RepL.keep (Same.tups sb) r6
 refine ⟨p6,p7,_,_,[zZ (k1,w1),zZ (k2,w2)],[zZ (k1,w1),zZ (k2,w2)],rfl,rfl,SqL.of (sb _ _ e6),SqL.of e7,r6b,.cons b1 (.cons b2 .nil),(fun t ht=>?_),?_⟩
 ·simp only [List.mem_cons,List.not_mem_nil,or_false] at ht
  rcases ht with h | h <;> subst h
  ·exact zd3 kp1
  ·exact zd3 kp2
 rw [ne_self]
 refine ⟨_,rfl,ifF rfl ?_⟩
 obtain ⟨g0,g1,g2,g3,g4,g5⟩:=rep0 s5b
 refine ⟨_,rfl,_,rfl,_,rfl,a,d,cs,root,.non,k1,_,v1,rfl,vs5.same s5b,.non,g1,Nat.zero_le _,.inr ⟨zg1 _,4,_,un.left,by decide,fun ps' e' p8 xs8 Hc sc _ e8 r8=>?_,(by intro b' H' e;cases e)⟩⟩
 cases e'
 have s5c:=s5b.trans sc
 have epc:=s5c _ _ ep5
 refine ⟨_,rfl,_,rfl,pp,_,rfl,SqL.of epc,fun p9 h9=>?_⟩
 obtain ⟨Hd,eG,sd,e9⟩:=mkLs (vs:=[V.ref a0]) h9
 have c1':cutV [V.ref a0,.ref a1,.ref a2] none (some 1)=[.ref a0]:=zj0 (n:=1) (by simp)
 rw [c1',eG];clear eG c1'
 have s5d:=s5c.trans sd
 obtain ⟨b0,b1,b2⟩:=pr s5d
 have r8d:RepL Hd [zZ (k0,w0)] xs8:=RepL.keep (Same.tups sd) r8
 refine ⟨p8,p9,_,_,[zZ (k0,w0)],[zZ (k0,w0)],rfl,rfl,SqL.of (sd _ _ e8),SqL.of e9,r8d,.cons b0 .nil,(fun t ht=>by rw [List.mem_singleton.mp ht];exact zd3 kp0),?_⟩
 rw [ne_self]
 refine ⟨_,rfl,ifF rfl ?_⟩
 obtain ⟨g0,g1,g2,g3,g4,g5⟩:=rep0 s5d
 have d0:=un.q0.dp
 have em:za2 k0 k2=false:=by unfold za2;rw [a02];simp
 have z0:zai cs left cnt=.ok 1:=un.sl
 refine ⟨_,rfl,_,rfl,_,rfl,_,rfl,a,d,cs,root,k0,k2,v0,v2,rfl,vs5.same s5d,g0,g2,d0,.inr (.inr ⟨em,un.q0,un.q2,_,_,un.way2,un.way0,by simp,by simp,(fun nd hnd=>?_),(fun nd hnd=>?_),fun many He se=>?_⟩)⟩
 ·simp only [List.mem_cons,List.not_mem_nil,or_false] at hnd
  rcases hnd with h | h <;> subst h
  ·exact ⟨1,z0⟩
  ·exact ⟨0,zeq _ _⟩
 ·simp only [List.mem_cons,List.not_mem_nil,or_false] at hnd
  rcases hnd with h | h <;> subst h
  ·exact ⟨1,z0⟩
  ·exact ⟨0,zeq _ _⟩
 have s5e:=s5d.trans se
 obtain ⟨g0,g1,g2,g3,g4,g5⟩:=rep0 s5e
 have epe:=s5e _ _ ep5
 have tup5:∀{H':Hp},Same H5 H'→Tups H1 H':=fun z=>(tup f25).trans (Same.tups z)
 refine ⟨_,rfl,_,rfl,pp,_,_,_,rfl,rfl,SqL.of epe,rfl,a2,_,_,_,rfl,rfl,SqT.of (tup5 s5e _ _ e2),rfl,_,rfl,szl (show 5≤1000 by decide),fun px hpx=>?_⟩
 obtain ⟨Hf,eG,sf,rd⟩:=mkT (.cons g2 (.cons g5 (.cons (.int left) (.cons (.int 0) (.cons (.int 2) .nil))))) hpx
 rw [eG];clear eG
 have s5f:=s5e.trans sf
 obtain ⟨g0,g1,g2,g3,g4,g5⟩:=rep0 s5f
 dsimp only [zaZ]
 refine zbj (fun σ H'=>∃pd,σ=[some (.ref a),some (.int c),some (.int m),some (.ref pp),some v0,some v1,some v2,some (.int left),some (.int right),some (.int root),some (.ref pw),some (.int many),some (.ref pd)]∧Same H5 H'∧Rep H' (jn ⟨k0,w0,0,0,1⟩ ⟨k2,w2,0,0,1⟩ left right) (.ref pd)) (fun N kN=>?_) ?_
 ·refine ⟨_,rfl,_,rfl,k0,k2,_,_,rfl,g0,g2,un.q0.good,un.q2.good,fun Hg sg=>⟨_,rfl,?_⟩⟩
  have s5g:=s5f.trans sg
  obtain ⟨g0,g1,g2,g3,g4,g5⟩:=rep0 s5g
  cases z:zaV k0 k2 with
  | true=>
   refine ifT rfl ⟨_,rfl,_,rfl,pp,_,_,_,rfl,rfl,SqL.of (s5g _ _ ep5),rfl,a0,_,_,_,rfl,rfl,SqT.of (tup5 s5g _ _ e0),rfl,_,rfl,szl (show 5≤1000 by decide),fun py hpy=>?_⟩
   obtain ⟨Hh,eG,sh,re⟩:=mkT (.cons g0 (.cons g3 (.cons (.int 0) (.cons (.int right) (.cons (.int 2) .nil))))) hpy
   rw [eG];clear eG
   refine kN _ _ ⟨py,rfl,s5g.trans sh,?_⟩
   unfold jn
   rw [if_pos z];exact re
  | false=>
   refine ifF rfl (kN _ _ ⟨px,rfl,s5g,?_⟩)
   unfold jn
   rw [if_neg (by rw [z];exact Bool.false_ne_true)];exact rd.keep (Same.tups sg)
 rintro σ Hi ⟨pd,rfl,s5i,rdue⟩
 obtain ⟨g0,g1,g2,g3,g4,g5⟩:=rep0 s5i
 have gj:Good (jn ⟨k0,w0,0,0,1⟩ ⟨k2,w2,0,0,1⟩ left right):=by
  unfold jn
  split
  ·exact (zaH (l:=0) (r:=right) (c:=2) kp0.1 kp0.2 (by decide) (by decide) (by omega) (by omega) (by decide) (by decide)).2
  ·exact (zaH (l:=left) (r:=0) (c:=2) kp2.1 kp2.2 (by omega) (by omega) (by decide) (by decide) (by decide) (by decide)).2
 refine ⟨_,rfl,_,_,_,_,rfl,.int many,rfl,_,rfl,ifT rfl ?_⟩
 have vsi:=vs5.same s5i
 refine ⟨_,rfl,_,rfl,_,rfl,a,d,cs,root,k1,v1,rfl,vsi,g1,un.q1,.inr ⟨_,un.n0,un.b1,rfl,un.l0,un.r0,.inr (.inr ⟨_,_,un.b0,un.b2,rfl,rfl,un.q0,un.q2,gj,by omega,cl,fun Hj fj vj=>?_⟩)⟩⟩
 have rj:=rdue.keep (vsi.tups fj)
 have gdp:=gj.dp
 have gnd:=gj.nd
 refine ⟨_,rfl,_,_,rfl,rj,gj.wf,by omega,by omega,fun Hk sk=>?_⟩
 refine ⟨rfl,?_⟩
 rw [decide_eq_true rfl]
 exact q Hk ((Same.fr1 s02).trans (f25.trans ((Same.fr1 s5i).trans (fj.trans (Same.fr1 sk)))))
end
end Pv
namespace Pv
open PySem L2
def mixF (c k:Int):Int:=(((c+130363 * (k+1)) % 2147483629 * ((c+130363 * (k+1)) % 2147483629) % 2147483587) * (((c+130363 * (k+1)) % 2147483629 * ((c+130363 * (k+1)) % 2147483629) % 2147483587)+6007+3 * k) % 2147483579) / 16
def zjc:Sp:=fun vs H Q _=>∃(c k:Int),vs=[.int c,.int k]∧0≤k∧k≤1000∧(0≤mixF c k→mixF c k < 2147483648→Q (.int (mixF c k)) H)
def zjw (c:Int)(i:Nat):Int:=mixF c (i:Int) * (10:Int) ^ (24:Int).toNat+mixF c ((i:Int)+50) * (10:Int) ^ (12:Int).toNat+mixF c ((i:Int)+90)
def zbi (m:Int):Int→Nat→List Int→List Int
 | _,_,[]=>[]
 | c,i,n::ns=>if m=0 then (c % n)::zbi m (c / n) (i+1) ns else (zjw c i % n)::zbi m c (i+1) ns
def zgc:Sp:=fun vs H Q _=>∃(c m:Int) (p:Addr) (ns:List Int),vs=[.int c,.int m,.ref p]∧H p=some (.lst (ns.map V.int))∧ns.length≤20∧(∀n∈ns,0 < n∧n < 10 ^ 40)∧
 ∀(r:Addr) (H':Hp),Same H H'→H' r=some (.lst ((zbi m c 0 ns).map V.int))→Below (zbi m c 0 ns) ns→Q (.ref r) H'
def sgc (r:Int):Nat:=SGs.cps.toList.getD r.toNat 32
def zdV:Nat→Int→Str→Str
 | 0,_,x=>x
 | k+1,n,x=>zdV k (n / 94) (x++⟨#[sgc (n % 94)]⟩)
def zhx:Sp:=fun vs H Q _=>∃(n m:Int),vs=[.int n,.int m]∧0≤m∧m≤60∧(zfX (zdV m.toNat n (Str.ofString ""))→Q (.str (zdV m.toNat n (Str.ofString ""))) H)
def zew (x1 x2:Int):List Th:=[.int (x1 - 4),.int (x2 - (10:Int) ^ (30:Int).toNat),.str (zdV x1.toNat x2 (Str.ofString "")),.tup [.int x1,.tup [],.tup [.non]]]
def ze3 (c m:Int):Th:=match zbi m c 0 [4,9,2 * (10:Int) ^ (30:Int).toNat+1] with
 | [x0,x1,x2]=>(zew x1 x2).getD x0.toNat .non
 | _=>.non
def zfL:Sp:=fun vs H Q _=>∃(c m:Int),vs=[.int c,.int m]∧∀(v:V) (H':Hp),Same H H'→Rep H' (ze3 c m) v→KeyT (ze3 c m)→Q v H'
theorem zlB {r:Int}(h0:0≤r)(h1:r < 94):atI SGs.cps.toList r=some (sgc r)∧Sign (sgc r):=by
 have hl:r.toNat < SGs.cps.toList.length:=by rw [zjt];omega
 have er:r=((r.toNat:Nat):Int):=by omega
 have q:atI SGs.cps.toList ((r.toNat:Nat):Int)=some SGs.cps.toList[r.toNat]:=zaI (List.getElem?_eq_getElem hl)
 rw [←er] at q
 have e:sgc r=SGs.cps.toList[r.toNat]:=by
  unfold sgc
  rw [List.getD_eq_getElem?_getD,List.getElem?_eq_getElem hl];rfl
 rw [e]
 exact ⟨q,zjo _ (List.getElem_mem hl)⟩
theorem RepL.pickD {H:Hp}{ts:List Th}{vs:List V}{i:Int}(r:RepL H ts vs)(h0:0≤i)(h1:i < ts.length):∃v,atI vs i=some v∧Rep H (ts.getD i.toNat .non) v∧ts.getD i.toNat .non∈ts:=by
 have hl:=r.len
 have hi:i.toNat < ts.length:=by omega
 have hv:i.toNat < vs.length:=by omega
 have ei:i=((i.toNat:Nat):Int):=by omega
 have e1:ts[i.toNat]? =some ts[i.toNat]:=List.getElem?_eq_getElem hi
 have e2:vs[i.toNat]? =some vs[i.toNat]:=List.getElem?_eq_getElem hv
 have e3:ts.getD i.toNat .non=ts[i.toNat]:=by rw [List.getD_eq_getElem?_getD,e1];rfl
 refine ⟨vs[i.toNat],?_,?_,?_⟩
 ·have q:=zaI e2
  rw [←ei] at q
  exact q
 ·rw [e3];exact r.at _ _ _ e2 e1
 ·rw [e3];exact List.getElem_mem hi
section
variable {P:Program}{w:World}{K:PySem.W.Frag}{mg:Str→Option Value}{base:Heap}
theorem zkk (D:Dfn K mg "_law_mix" zcR ["cell","k"]):Fn P w K mg base "_law_mix" 1 ["cell","k"] zjc:=by
 refine D.ok (k:=0) za5 (fun vs H Q E h=>?_) (fun f cdv A outer s H vs Q E hr h=>?_)
 ·obtain ⟨c,k,rfl,_⟩:=h;rfl
 obtain ⟨c,k,rfl,k0,k1,q⟩:=h
 refine ⟨_,(zd (zj (i:=2) za5.nd rfl (Or.inl rfl) (zo z8 (zo zO (pv 0) (zo zaE zb (zo zO (pv 1) zb))) zb))
 (zd (zj (i:=2) za5.nd rfl (Or.inl rfl) (zo z8 (zo zaE (pv 2) (pv 2)) zb))
 (ze (zl (zo zaG (zo z8 (zo zaE (pv 2) (zo zO (zo zO (pv 2) zb) (zo zaE zb (pv 1)))) zb) zb))))),?_⟩
 unfold mixF at q
 have b0:0≤(c+130363 * (k+1)) % 2147483629:=Int.emod_nonneg _ (by decide)
 have b1:(c+130363 * (k+1)) % 2147483629 < 2147483629:=Int.emod_lt_of_pos _ (by decide)
 refine ⟨_,rfl,_,rfl,_,_,rfl,rfl,_,_,rfl,rfl,.inl ⟨by decide,by decide⟩,_,_,rfl,rfl,_,_,rfl,rfl,(show (0:Int) < 2147483629 by decide),?_⟩
 generalize hd:(c+130363 * (k+1)) % 2147483629=d at b0 b1 q
 show tSeq _ _ _ (List.set _ _ (some (V.int ((c+130363 * (k+1)) % 2147483629)))) _
 rw [hd]
 have g0:0≤d * d % 2147483587:=Int.emod_nonneg _ (by decide)
 have g1:d * d % 2147483587 < 2147483587:=Int.emod_lt_of_pos _ (by decide)
 refine ⟨_,rfl,_,rfl,_,_,rfl,rfl,.inl ⟨by omega,by omega⟩,_,_,rfl,rfl,(show (0:Int) < 2147483587 by decide),?_⟩
 generalize hf:d * d % 2147483587=g at g0 g1 q
 show zaZ 2 (V.int (d * d % 2147483587)) _ _ _
 rw [hf]
 have z0:0≤g * (g+6007+3 * k) % 2147483579:=Int.emod_nonneg _ (by decide)
 have z1:g * (g+6007+3 * k) % 2147483579 < 2147483579:=Int.emod_lt_of_pos _ (by decide)
 refine ⟨_,rfl,_,rfl,_,_,rfl,rfl,_,rfl,_,_,rfl,rfl,.inl ⟨by decide,by decide⟩,_,_,rfl,rfl,_,_,rfl,rfl,.inl ⟨by omega,by omega⟩,_,_,rfl,rfl,(show (0:Int) < 2147483579 by decide),_,_,rfl,rfl,⟨by decide,by decide+kernel⟩,q ?_ ?_⟩
 ·exact Int.ediv_nonneg z0 (by decide)
 ·have:g * (g+6007+3 * k) % 2147483579 / 16≤g * (g+6007+3 * k) % 2147483579:=Int.ediv_le_self _ z0
  exact Int.lt_of_le_of_lt this (Int.lt_trans z1 (by decide))
theorem zhJ (D:Dfn K mg "_law_parts" zbD ["cell","way","least"]) (F_law_mix:Fn P w K mg base "_law_mix" 1 ["cell","k"] zjc) (m_range:mg "range" =none) (m_len:mg "len" =none):Fn P w K mg base "_law_parts" 2 ["cell","way","least"] zgc:=by
 refine D.ok (k:=1) zad (fun vs H Q E h=>?_) (fun f cdv A outer s H vs Q E hr h=>?_)
 ·obtain ⟨c,m,p,ns,rfl,_⟩:=h;rfl
 obtain ⟨c,m,p,ns,rfl,ep,l20,hn,q⟩:=h
 refine ⟨_,(zd (zj (i:=3) zad.nd rfl (Or.inl rfl) (zM zc))
 (zd (zaA PassesOwn.never rfl (za6 rfl m_range (za (zF (zI) (by rfl) m_len (by rfl) (za (pv 2) zc)) zc)) (z7 (i:=4) zad.nd rfl (Or.inl rfl))
 (ze (zE (zw zac (pv 1) zb (zt _))
 (zd (zaC (zcv PySem.F.plainAttrs_list PySem.F.slot_list_append PySem.F.type_list_append zar (pv 3) (za (zo z8 (pv 0) (zm zB (pv 2) (pv 4) (fun _ _=>rfl))) zc)))
 (ze (zj (i:=0) zad.nd rfl (Or.inl rfl) (zo zaG (pv 0) (zm zB (pv 2) (pv 4) (fun _ _=>rfl))))))
 (zd (zj (i:=5) zad.nd rfl (Or.inl rfl) (zo zO (zo zO (zo zaE (zC F_law_mix hr (by omega) (by rfl) (za (pv 0) (za (pv 4) zc))) (zo zaN zb zb)) (zo zaE (zC F_law_mix hr (by omega) (by rfl) (za (pv 0) (za (zo zO (pv 4) zb) zc))) (zo zaN zb zb))) (zC F_law_mix hr (by omega) (by rfl) (za (pv 0) (za (zo zO (pv 4) zb) zc)))))
 (ze (zaC (zcv PySem.F.plainAttrs_list PySem.F.slot_list_append PySem.F.type_list_append zar (pv 3) (za (zo z8 (pv 5) (zm zB (pv 2) (pv 4) (fun _ _=>rfl))) zc))))))))
 (ze (zl (pv 3))))),?_⟩
 refine ⟨szl (show 0≤1000 by decide),fun r hr0=>?_⟩
 have sm0:Same H (upd H r (.lst [])):=zk (Same.refl H) hr0
 refine ⟨_,rfl,p,_,rfl,.inl (SqL.of (sm0 _ _ ep)),?_⟩
 rw [List.length_map]
 refine ⟨_,rfl,by omega,by omega,?_⟩
 rw [Int.toNat_natCast]
 refine za8 (n:=ns.length) (fun i σ H'=>∃(c':Int) (xs:List Int) (k4 k5:Option V),σ=[some (.int c'),some (.int m),some (.ref p),some (.ref r),k4,k5]∧Same H H'∧H' r=some (.lst (xs.map V.int))∧Below xs (ns.take i)∧zbi m c 0 ns=xs++zbi m c' i (ns.drop i)) ⟨c,[],_,_,rfl,sm0,zf,⟨rfl,fun i a b h=>by simp at h⟩,rfl⟩ ?_ ?_
 ·rintro i σ H1 hi ⟨c',xs,k4,k5,rfl,sm,er,hb,hp⟩
  rw [Int.zero_add]
  rw [List.drop_eq_getElem_cons hi] at hp
  have hp':zbi m c 0 ns=xs++(if m=0 then (c' % ns[i])::zbi m (c' / ns[i]) (i+1) (ns.drop (i+1)) else (zjw c' i % ns[i])::zbi m c' (i+1) (ns.drop (i+1))):=hp
  have en:ns[i]? =some ns[i]:=List.getElem?_eq_getElem hi
  have hni:=hn _ (List.getElem_mem hi)
  have hxl:xs.length=i:=by rw [hb.1,List.length_take];omega
  have nr:p≠r:=zr ep hr0
  have ei:atI (ns.map V.int) ((i:Nat):Int)=some (.int ns[i]):=zaI (by rw [List.getElem?_map,en];rfl)
  refine ⟨_,rfl,rfl,_,rfl,?_⟩
  rw [zR]
  refine ifB (fun cc=>?_) (fun cc=>?_)
  ·have c0:m=0:=of_decide_eq_true cc
   rw [if_pos c0] at hp'
   refine ⟨_,rfl,.inl ⟨rfl,_,SqL.of er⟩,_,rfl,_,rfl,_,rfl,p,_,_,_,rfl,rfl,SqL.of (sm _ _ ep),ei,_,_,rfl,rfl,hni.1,r,_,_,rfl,rfl,er,Nat.lt_of_lt_of_le (show (xs.map V.int).length < 1000 by rw [List.length_map];omega) (szl (Nat.le_refl _)),?_⟩
   have sm1:Same H (upd H1 r (.lst ((xs.map V.int)++ [V.int (c' % ns[i])]))):=zaw sm hr0
   refine ⟨_,rfl,_,rfl,_,rfl,p,_,_,_,rfl,rfl,SqL.of (sm1 _ _ ep),ei,_,_,rfl,rfl,⟨hni.1,Int.lt_trans hni.2 (by decide+kernel)⟩,?_⟩
   exact ⟨_,xs++ [c' % ns[i]],_,_,rfl,sm1,by rw [zf,List.map_append];rfl,zb4 hb en (Int.emod_nonneg _ (by omega)) (Int.emod_lt_of_pos _ hni.1),by rw [hp',List.append_assoc];rfl⟩
  ·have c0:¬m=0:=of_decide_eq_false cc
   rw [if_neg c0] at hp'
   refine ⟨_,rfl,_,rfl,c',_,rfl,by omega,by omega,fun a0 a1=>?_⟩
   refine ⟨_,_,rfl,rfl,⟨by decide,by decide,by decide⟩,_,_,rfl,rfl,.inl ⟨by omega,by omega⟩,?_⟩
   refine ⟨_,rfl,_,rfl,_,_,rfl,rfl,c',_,rfl,by omega,by omega,fun b0 b1=>?_⟩
   refine ⟨_,_,rfl,rfl,⟨by decide,by decide,by decide⟩,_,_,rfl,rfl,.inl ⟨by omega,by omega⟩,_,_,rfl,rfl,?_⟩
   refine ⟨_,rfl,_,rfl,_,_,rfl,rfl,c',_,rfl,by omega,by omega,fun d0 d1=>?_⟩
   refine ⟨_,_,rfl,rfl,?_⟩
   refine ⟨_,rfl,.inl ⟨rfl,_,SqL.of er⟩,_,rfl,_,rfl,_,rfl,p,_,_,_,rfl,rfl,SqL.of (sm _ _ ep),ei,_,_,rfl,rfl,hni.1,r,_,_,rfl,rfl,er,Nat.lt_of_lt_of_le (show (xs.map V.int).length < 1000 by rw [List.length_map];omega) (szl (Nat.le_refl _)),?_⟩
   exact ⟨c',xs++ [zjw c' i % ns[i]],_,_,rfl,zaw sm hr0,by rw [zf,List.map_append];rfl,zb4 hb en (Int.emod_nonneg _ (by omega)) (Int.emod_lt_of_pos _ hni.1),by rw [hp',List.append_assoc];rfl⟩
 ·rintro σ H1 ⟨c',xs,k4,k5,rfl,sm,er,hb,hp⟩
  rw [List.take_length] at hb
  rw [List.drop_length] at hp
  have hp':zbi m c 0 ns=xs:=by rw [hp];exact List.append_nil xs
  rw [←hp'] at er hb
  exact ⟨_,rfl,q r H1 sm er hb⟩
theorem ziO (D:Dfn K mg "_law_text" zcd ["number","many"]) (m_range:mg "range" =none):Fn P w K mg base "_law_text" 1 ["number","many"] zhx:=by
 refine D.ok (k:=0) zV (fun vs H Q E h=>?_) (fun f cdv A outer s H vs Q E hr h=>?_)
 ·obtain ⟨n,m,rfl,_⟩:=h;rfl
 obtain ⟨n,m,rfl,m0,m1,q⟩:=h
 refine ⟨_,(zd (zj (i:=2) zV.nd rfl (Or.inl rfl) zah)
 (zd (zj (i:=2) zV.nd rfl (Or.inl rfl) (zo zb0 (pv 2) zah))
 (zd (zj (i:=3) zV.nd rfl (Or.inl rfl) zah)
 (zd (zaA PassesOwn.never rfl (za6 rfl m_range (za (pv 1) zc)) (z7 (i:=4) zV.nd rfl (Or.inl rfl))
 (zd (zj (i:=3) zV.nd rfl (Or.inl rfl) (zo zb0 (pv 3) (zm ziJ (pv 2) (zo z8 (pv 0) zb) (fun _ _=>rfl))))
 (ze (zj (i:=0) zV.nd rfl (Or.inl rfl) (zo zaG (pv 0) zb)))))
 (ze (zl (pv 3))))))),?_⟩
 refine ⟨_,rfl,_,_,rfl,rfl,szl (by decide+kernel),?_⟩
 refine ⟨_,rfl,_,rfl,by omega,by omega,?_⟩
 refine za8 (n:=m.toNat) (fun i σ H'=>H'=H∧∃(n':Int) (x:Str) (kk:Option V),σ=[some (.int n'),some (.int m),some (.str SGs),some (.str x),kk]∧x.length=i∧(∀c∈x.cps.toList,Sign c)∧zdV m.toNat n (Str.ofString "")=zdV (m.toNat - i) n' x) ⟨rfl,n,Str.ofString "",_,rfl,by decide+kernel,by decide+kernel,rfl⟩ ?_ ?_
 ·rintro i σ H' hi ⟨rfl,n',x,kk,rfl,hl,hs,ht⟩
  obtain ⟨ec,hc⟩:=zlB (Int.emod_nonneg n' (by decide)) (Int.emod_lt_of_pos n' (show (0:Int) < 94 by decide))
  refine ⟨_,rfl,_,rfl,_,rfl,_,_,rfl,rfl,(show (0:Int) < 94 by decide),SGs,_,_,rfl,rfl,szl (by decide+kernel),ec,?_⟩
  refine ⟨_,_,rfl,rfl,szl (show x.length+1≤1000 by omega),?_⟩
  refine ⟨_,rfl,_,_,rfl,rfl,⟨by decide,by decide+kernel⟩,?_⟩
  have e1:m.toNat - i=(m.toNat - (i+1))+1:=by omega
  rw [e1] at ht
  refine ⟨rfl,_,_,_,rfl,by rw [zdK,hl];rfl,fun d hd=>?_,ht⟩
  rw [zhd] at hd
  rcases List.mem_append.mp hd with hd | hd
  ·exact hs d hd
  ·have e:d=sgc (n' % 94):=by simpa using hd
   rw [e];exact hc
 ·rintro σ H' ⟨rfl,n',x,kk,rfl,hl,hs,ht⟩
  rw [Nat.sub_self] at ht
  have e:zdV m.toNat n (Str.ofString "")=x:=ht
  rw [e] at q
  exact ⟨_,rfl,q ⟨by omega,hs⟩⟩
theorem zhP (D:Dfn K mg "_law_worth" zbB ["cell","way"]) (F_law_parts:Fn P w K mg base "_law_parts" 2 ["cell","way","least"] zgc) (F_law_text:Fn P w K mg base "_law_text" 1 ["number","many"] zhx):Fn P w K mg base "_law_worth" 3 ["cell","way"] zfL:=by
 refine D.ok (k:=2) zbn (fun vs H Q E h=>?_) (fun f cdv A outer s H vs Q E hr h=>?_)
 ·obtain ⟨c,m,rfl,_⟩:=h;rfl
 obtain ⟨c,m,rfl,q⟩:=h
 refine ⟨_,(zd (zj (i:=2) zbn.nd rfl (Or.inl rfl) (zC F_law_parts hr (by omega) (by rfl) (za (pv 0) (za (pv 1) (za (zM (za zb (za zb (za (zo zO (zo zaE zb (zo zaN zb zb)) zb) zc)))) zc)))))
 (ze (zl (zm zB (zM (za (zo za0 (zm zB (pv 2) zb (fun _ _=>rfl)) zb) (za (zo za0 (zm zB (pv 2) zb (fun _ _=>rfl)) (zo zaN zb zb)) (za (zC F_law_text hr (by omega) (by rfl) (za (zm zB (pv 2) zb (fun _ _=>rfl)) (za (zm zB (pv 2) zb (fun _ _=>rfl)) zc))) (za (zJ (za (zm zB (pv 2) zb (fun _ _=>rfl)) (za (zJ zc) (za (zJ (za zP zc)) zc)))) zc))))) (zm zB (pv 2) zb (fun _ _=>rfl)) (fun _ _=>rfl))))),?_⟩
 have e30:(10:Int) ^ (30:Int).toNat=1000000000000000000000000000000:=by decide+kernel
 refine ⟨_,rfl,_,rfl,_,_,rfl,rfl,⟨by decide,by decide,by decide⟩,_,_,rfl,rfl,.inl ⟨by decide,by decide⟩,_,_,rfl,rfl,szl (show 3≤1000 by decide),fun p hp=>?_⟩
 refine ⟨c,m,p,[4,9,2 * (10:Int) ^ (30:Int).toNat+1],rfl,zf,by decide,by decide+kernel,fun r H1 s1 er hb=>?_⟩
 have s01:Same H H1:=(zk (Same.refl H) hp).trans s1
 unfold ze3 at q
 generalize zbi m c 0 [4,9,2 * (10:Int) ^ (30:Int).toNat+1]=xs at q er hb
 obtain ⟨x0,x1,x2,rfl,b0,b1,b2⟩:=zjH hb
 have es:SqL K H1 r [.int x0,.int x1,.int x2]:=SqL.of er
 refine ⟨_,rfl,r,_,_,_,rfl,rfl,es,rfl,_,_,rfl,rfl,_,rfl,r,_,_,_,rfl,rfl,es,rfl,_,_,rfl,rfl,⟨by decide,by decide,by decide⟩,_,_,rfl,rfl,?_⟩
 refine ⟨_,rfl,r,_,_,_,rfl,rfl,es,rfl,_,rfl,r,_,_,_,rfl,rfl,es,rfl,x2,_,rfl,by omega,by omega,fun htx1=>?_⟩
 refine ⟨_,rfl,r,_,_,_,rfl,rfl,es,rfl,szl (show 0≤1000 by decide),fun p1 h1=>?_⟩
 generalize htt:zdV x1.toNat x2 (Str.ofString "")=tx1 at htx1
 have s12:=zk (o:=.tup []) (Same.refl H1) h1
 have rp1:=(RepL.nil (H:=H1)).new h1
 generalize upd H1 p1 (.tup [])=H2 at s12 rp1
 refine ⟨szl (show 1≤1000 by decide),fun p2 h2=>?_⟩
 have s23:=zk (o:=.tup [.non]) (Same.refl H2) h2
 have rp2:=(RepL.cons (H:=H2) .non .nil).new h2
 generalize upd H2 p2 (.tup [.non])=H3 at s23 rp2
 refine ⟨szl (show 3≤1000 by decide),fun p3 h3=>?_⟩
 have s34:=zk (o:=.tup [.int x1,.ref p1,.ref p2]) (Same.refl H3) h3
 have rp3:=(RepL.cons (.int x1) (.cons (rp1.keep (Same.tups s23)) (.cons rp2 .nil))).new h3
 generalize upd H3 p3 (.tup [.int x1,.ref p1,.ref p2])=H4 at s34 rp3
 refine ⟨szl (show 4≤1000 by decide),fun l hl=>?_⟩
 have s45:=zk (o:=.lst [.int (x1 - 4),.int (x2 - (10:Int) ^ (30:Int).toNat),.str tx1,.ref p3]) (Same.refl H4) hl
 have e5:upd H4 l (.lst [.int (x1 - 4),.int (x2 - (10:Int) ^ (30:Int).toNat),.str tx1,.ref p3]) l=some (.lst [.int (x1 - 4),.int (x2 - (10:Int) ^ (30:Int).toNat),.str tx1,.ref p3]):=zf
 generalize upd H4 l (.lst [.int (x1 - 4),.int (x2 - (10:Int) ^ (30:Int).toNat),.str tx1,.ref p3])=H5 at s45 e5
 have s15:=((s12.trans s23).trans s34).trans s45
 have rl:RepL H5 [.int (x1 - 4),.int (x2 - (10:Int) ^ (30:Int).toNat),.str tx1,.tup [.int x1,.tup [],.tup [.non]]] [.int (x1 - 4),.int (x2 - (10:Int) ^ (30:Int).toNat),.str tx1,.ref p3]:=
  .cons (.int _) (.cons (.int _) (.cons (.str _) (.cons (rp3.keep (Same.tups s45)) .nil)))
 have all:∀t∈ [Th.int (x1 - 4),.int (x2 - (10:Int) ^ (30:Int).toNat),.str tx1,.tup [.int x1,.tup [],.tup [.non]]],KeyT t:=by
  intro t ht
  have k2:KeyT (.int (x2 - (10:Int) ^ (30:Int).toNat)):=by
   rw [e30] at b2 ⊢
   exact zbe (by omega) (by omega)
  simp only [List.mem_cons,List.not_mem_nil,or_false] at ht
  rcases ht with h | h | h | h <;> subst h
  ·exact zbe (by omega) (by omega)
  ·exact k2
  ·exact zfm htx1
  ·exact ⟨⟨by show (3:Nat)≤40;decide,⟨by omega,by omega⟩,⟨by show (0:Nat)≤40;decide,trivial⟩,⟨by show (1:Nat)≤40;decide,trivial,trivial⟩,trivial⟩,by show (2:Nat)≤3;decide,by show (5:Nat)≤10;decide,fun z=>by cases z⟩
 have ew:zew x1 x2=[Th.int (x1 - 4),.int (x2 - (10:Int) ^ (30:Int).toNat),.str tx1,.tup [.int x1,.tup [],.tup [.non]]]:=by
  unfold zew
  rw [htt]
 have q':∀(v:V) (H':Hp),Same H H'→Rep H' ((zew x1 x2).getD x0.toNat .non) v→KeyT ((zew x1 x2).getD x0.toNat .non)→Q v H':=q
 rw [ew] at q'
 obtain ⟨v,ev,rv,hm⟩:=rl.pickD b0.1 (by show x0 < ((4:Nat):Int);omega)
 have es5:SqL K H5 r [.int x0,.int x1,.int x2]:=SqL.of (s15 _ _ er)
 exact ⟨_,rfl,r,_,_,_,rfl,rfl,es5,rfl,l,_,_,_,rfl,rfl,SqL.of e5,ev,q' v H5 (s01.trans s15) rv (all _ hm)⟩
end
end Pv
namespace Pv
open PySem L2
abbrev zcG:Stmt:=top 77
theorem zN:zv ["cell","way","keeper","own","key","count","thing","due","bad","links","root","deeds","some"] ["cell","way"] (zg zcG):=⟨rfl,rfl,rfl,by decide+kernel,rfl,by decide+kernel,by decide+kernel⟩
theorem zh6 {C x dx:Addr}{H:Hp}{Z:Hp→Prop}{E:XK}(hx:H x=none)(hdx:H dx=none)(n:dx≠x)(q:∀d H',Same H H'→H d=none→H' x=some (.ins C dx [("laid",.ref d)])→H' d=some (.dK [])→Z H'):
  zfd C [.ref x] (upd (upd H dx (.own x)) x (.ins C dx [])) (fun v H2=>v=.non∧Z H2) E:=by
 refine ⟨x,dx,rfl,zf,fun d hd=>⟨rfl,?_⟩⟩
 have xd:x≠d:=fun z=>by rw [←z,zf] at hd;cases hd
 have dd:dx≠d:=fun z=>by rw [←z,zq n,zf] at hd;cases hd
 have hd0:H d=none:=by rw [zq (Ne.symm xd),zq (Ne.symm dd)] at hd;exact hd
 refine q d _ (fun b o e=>?_) hd0 zf (by rw [zq (Ne.symm xd)];exact zf)
 have n1:=zr e hx
 rw [zq n1,zq (zr e hd0),zq n1,zq (zr e hdx)];exact e
def zgV (CC:Addr):Sp:=fun vs H Q E=>∃(c m:Int),vs=[.int c,.int m]∧Cl CC E∧∀H',Same H H'→Q (.bl true) H'
theorem Fr1.back {d:Addr}{H H1 H':Hp}(f:Fr1 d H1 H')(s:Same H H1)(h:H d=none):Same H H':=fun b o e=>f b o (fun z=>by rw [z,h] at e;cases e) (s b o e)
theorem zll {tc:TT}{t u:TS}{D:L2.Ends}{σ:L2.St}{H:Hp}(Pc:Bool→Hp→Prop)(a:∀N:Bool→Hp→Prop,(∀b H,Pc b H→N b H)→tc σ H N)(rest:∀b H,Pc b H→if b=true then t D σ H else u D σ H):tIfS tc t u D σ H:=a _ rest
structure zbh (cs:List (Int ×Th))(k x wo:Th)(bad root cnt:Int)(lf b:Bool):Prop where
 kk:KeyT k
 kx:KeyT x
 ne:k≠x
 ah:zh x k=lf
 bn:bad≠0
 nn:root≠0
 b1:ben cs root 301=.ok ⟨k,wo,if lf=true then bad else 0,if lf=true then 0 else bad,cnt⟩
 bb:ben cs bad cnt=.error b
section
variable {cs:List (Int ×Th)}{k x wo:Th}{bad root cnt:Int}{lf b:Bool}
theorem zbh.turn (o:zbh cs k x wo bad root cnt lf b):zh k x= !lf:=by
 cases z:zh k x with
 | true=>rw [←o.ah,zag z];rfl
 | false=>
  cases y:zh x k with
  | true=>rw [←o.ah,y];rfl
  | false=>exact absurd (zdB z y) o.ne
theorem zbh.way (o:zbh cs k x wo bad root cnt lf b):WayR cs root x b:=by
 refine ⟨_,.step (ns:=[]) o.nn o.b1 o.kk o.ne ?_,by simp⟩
 have e:(if zh k x=true then (if lf=true then 0 else bad) else (if lf=true then bad else 0))=bad:=by
  rw [o.turn]
  cases lf <;> rfl
 show Way cs x (if zh k x=true then (if lf=true then 0 else bad) else (if lf=true then bad else 0)) cnt [] (some b)
 rw [e]
 exact .bad o.bn o.bb
theorem zbh.sz (o:zbh cs k x wo bad root cnt lf b):zai cs bad cnt=.error b:=by rw [zbV o.bn,o.bb];rfl
theorem zbh.whole (o:zbh cs k x wo bad root cnt lf b):StW cs .non .non 0 root [] [] 301 (.error b):=by
 have sz:=o.sz
 have b1:=o.b1
 cases lf with
 | true=>exact .sum (nd:=⟨k,wo,bad,0,cnt⟩) o.nn b1 o.kk (zbr _) (zaW _) (.inl sz)
 | false=>exact .sum (nd:=⟨k,wo,0,bad,cnt⟩) o.nn b1 o.kk (zbr _) (zaW _) (.inr (.inl ⟨0,zeq _ _,sz⟩))
theorem zbh.left (o:zbh cs k x wo bad root cnt true b):StW cs .non x 1 root [] [] 301 (.error b):=by
 have g:zaB x k=false:=by rw [zdu o.kx];exact o.turn
 refine .push (nd:=⟨k,wo,bad,0,cnt⟩) o.nn o.b1 o.kk (fun _ z=>by rw [show zaB x k=false from g] at z;cases z) ?_
 rw [zbr,if_pos rfl]
 exact .bad o.bn o.bb
theorem zbh.right (o:zbh cs k x wo bad root cnt false b):StW cs x .non 2 root [] [] 301 (.error b):=by
 have g:zap x k=false:=by rw [zdI o.kx];exact o.ah
 refine .push (nd:=⟨k,wo,0,bad,cnt⟩) o.nn o.b1 o.kk (fun z=>by rw [show zap x k=false from g] at z;cases z) ?_
 rw [show zap x k=false from g,if_neg Bool.false_ne_true]
 refine .pop (bg:=[]) (nd:=⟨k,wo,0,bad,cnt⟩) o.kk ?_
 rw [zaW,if_pos rfl]
 exact .bad o.bn o.bb
theorem zbh.deed (o:zbh cs k x wo bad root cnt lf b){n:Int}(h:n∈([0,1,2,3,7,if lf=true then 4 else 5,if lf=true then 6 else 5]++if lf=true then [8] else []:List Int)):RefW cs root n x b:=by
 cases lf with
 | true=>
  simp only [if_true,List.cons_append,List.nil_append,List.mem_cons,List.not_mem_nil,or_false] at h
  rcases h with rfl | rfl | rfl | rfl | rfl | rfl | rfl | rfl
  ·exact .inl ⟨rfl,o.way⟩
  ·exact .inr (.inl ⟨rfl,o.way⟩)
  ·exact .inr (.inr (.inl ⟨rfl,.inl o.way⟩))
  ·exact .inr (.inr (.inr (.inl ⟨rfl,o.way⟩)))
  ·exact .inr (.inr (.inr (.inr (.inr (.inr (.inr (.inl ⟨rfl,0,by decide,o.whole⟩)))))))
  ·exact .inr (.inr (.inr (.inr (.inl ⟨rfl,1,by decide,o.left⟩))))
  ·exact .inr (.inr (.inr (.inr (.inr (.inr (.inl ⟨rfl,o.way⟩))))))
  ·exact .inr (.inr (.inr (.inr (.inr (.inr (.inr (.inr (.inl ⟨rfl,o.nn,_,o.b1,o.sz⟩))))))))
 | false=>
  simp only [Bool.false_eq_true,if_false,List.append_nil,List.mem_cons,List.not_mem_nil,or_false] at h
  rcases h with rfl | rfl | rfl | rfl | rfl | rfl | rfl
  ·exact .inl ⟨rfl,o.way⟩
  ·exact .inr (.inl ⟨rfl,o.way⟩)
  ·exact .inr (.inr (.inl ⟨rfl,.inl o.way⟩))
  ·exact .inr (.inr (.inr (.inl ⟨rfl,o.way⟩)))
  ·exact .inr (.inr (.inr (.inr (.inr (.inr (.inr (.inl ⟨rfl,0,by decide,o.whole⟩)))))))
  ·exact .inr (.inr (.inr (.inr (.inr (.inl ⟨rfl,2,by decide,o.right⟩)))))
  ·exact .inr (.inr (.inr (.inr (.inr (.inl ⟨rfl,2,by decide,o.right⟩)))))
end
section
variable {P:Program}{w:World}{K:PySem.W.Frag}{mg:Str→Option Value}{base:Heap}{C CC CN CB:Addr}{x:Str}{t1 t2 t3 t4 t5 t6 t7:Tok}
seal PE PS PSs PT PA PI PTs PW PG PGs PO
theorem ziV (D:Dfn K mg "_law_right" zcG ["cell","way"]) (K_Keeper:Mkr P w K mg base "Keeper" C 1 ["self"] (zfd C)) (F_law_key:Fn P w K mg base "_law_key" 3 ["cell","way"] zeM) (F_law_worth:Fn P w K mg base "_law_worth" 3 ["cell","way"] zfL) (F_law_mix:Fn P w K mg base "_law_mix" 1 ["cell","k"] zeI) (F_law_uneven:FnX P w K mg base "_law_uneven" 28 ["keeper","cell","way"] (ze5 C CC)) (F_law_cut_itself:FnX P w K mg base "_law_cut_itself" 28 ["keeper","cell","way"] (ze5 C CC)) (F_law_none:Fn P w K mg base "_law_none" 4 ["cell","way","count"] zgH) (F_seal:Fn P w K mg base "seal" 13 ["thing"] zdy)
  (M_lay:Mt P w K mg base (CX1 P w) C "lay" 14 ["self","thing"] (zed C CC)) (c_C:Cls K C) (F_law_ahead:Fn P w K mg base "_law_ahead" 11 ["one","other"] (zda 9)) (F_law_refused:Fn P w K mg base "_law_refused" 27 ["vault","root","way","key","due"] (ze0 C)) (F_law_sort:Fn P w K mg base "_law_sort" 1 ["thing"] zeb) (F_law_unread:Fn P w K mg base "_law_unread" 25 ["keeper","bad","key","other"] (zf1 C)) (F_found:FnX P w K mg base "found" 23 ["vault","root","key"] (zcs C CN CB)) (F_size:FnX P w K mg base "size" 6 ["vault","root"] (zdY C CN CB)) (m_int:mg "int" =none) (m_len:mg "len" =none):FnX P w K mg base "_law_right" 29 ["cell","way"] (zgV CC):=by
 refine D.okX (k:=28) zN (fun vs H Q E h=>?_) (fun f cdv A outer s H vs Q E hr h=>?_)
 ·obtain ⟨c,m,rfl,_⟩:=h;rfl
 obtain ⟨c,m,rfl,cl,q⟩:=h
 refine ⟨_,(zd (zj (i:=2) zN.nd rfl (Or.inl rfl) (zj4 K_Keeper hr (by omega) (by rfl)))
 (zd (zj (i:=3) zN.nd rfl (Or.inl rfl) (zC F_law_key hr (by omega) (by rfl) (za (pv 0) (za (pv 1) zc))))
 (zd (zj (i:=4) zN.nd rfl (Or.inl rfl) (zC F_law_key hr (by omega) (by rfl) (za (zo zO (pv 0) zb) (za (pv 1) zc))))
 (zd (zE (zw zac (zo z8 (zC F_law_mix hr (by omega) (by rfl) (za (pv 0) (za zb zc))) zb) zb (zt _))
 (ze (zl (zH F_law_uneven hr (by omega) (by rfl) zD (za (pv 2) (za (pv 0) (za (pv 1) zc))))))
 zu)
 (zd (zE (zw zac (zo z8 (zC F_law_mix hr (by omega) (by rfl) (za (pv 0) (za zb zc))) zb) zb (zt _))
 (ze (zl (zH F_law_cut_itself hr (by omega) (by rfl) zD (za (pv 2) (za (pv 0) (za (pv 1) zc))))))
 zu)
 (zd (zE (zw (zdZ hr) (pv 3) (pv 4) (zt _))
 (ze (zl zaM))
 zu)
 (zd (zj (i:=5) zN.nd rfl (Or.inl rfl) (zo zO zb (zo z8 (zC F_law_mix hr (by omega) (by rfl) (za (pv 0) (za zb zc))) zb)))
 (zd (zj (i:=6) zN.nd rfl (Or.inl rfl) (zC F_law_none hr (by omega) (by rfl) (za (pv 0) (za (pv 1) (za (pv 5) zc)))))
 (zd (zj (i:=7) zN.nd rfl (Or.inl rfl) (zm zB (zM (za zah (za zah zc))) (zcN zcM (by rfl) m_int (by rfl) (za (zQ zac (zo z8 (zC F_law_mix hr (by omega) (by rfl) (za (pv 0) (za zb zc))) zb) zb (zt _)) zc)) (fun _ _=>rfl)))
 (zd (zj (i:=8) zN.nd rfl (Or.inl rfl) (zC F_seal hr (by omega) (by rfl) (za (pv 6) zc)))
 (zd (zE (zw zac (pv 7) zah (zt _))
 (ze (zj (i:=8) zN.nd rfl (Or.inl rfl) (zbR (pv 2) c_C M_lay hr (by omega) zD (za (pv 6) zc))))
 zu)
 (zd (zj (i:=9) zN.nd rfl (Or.inl rfl) (zM (za zb (za (pv 8) zc))))
 (zd (zE (zS (zC F_law_ahead hr (by omega) (by rfl) (za (pv 4) (za (pv 3) zc))))
 (ze (zj (i:=9) zN.nd rfl (Or.inl rfl) (zM (za (pv 8) (za zb zc)))))
 zu)
 (zd (zj (i:=10) zN.nd rfl (Or.inl rfl) (zbR (pv 2) c_C M_lay hr (by omega) zD (za (zJ (za (pv 3) (za (zC F_law_worth hr (by omega) (by rfl) (za (zo zaG (pv 0) zb) (za (pv 1) zc))) (za (zm zB (pv 9) zb (fun _ _=>rfl)) (za (zm zB (pv 9) zb (fun _ _=>rfl)) (za (pv 5) zc)))))) zc)))
 (zd (zE (PW.pt (zfg (zw zac (pv 7) zah (zt _)) (zd1 (zw zac (pv 8) (pv 10) (zt _)))))
 (ze (zl (zQ zac (zC F_seal hr (by omega) (by rfl) (za (zJ (za (pv 3) (za (zC F_law_worth hr (by omega) (by rfl) (za (zo zaG (pv 0) zb) (za (pv 1) zc))) (za (zm zB (pv 9) zb (fun _ _=>rfl)) (za (zm zB (pv 9) zb (fun _ _=>rfl)) (za (pv 5) zc)))))) zc)) (pv 8) (zt _))))
 zu)
 (zd (zj (i:=11) zN.nd rfl (Or.inl rfl) (zM (za zb (za zb (za zb (za zb (za zb (za (zm zB (zM (za zb (za zb zc))) (zcN zcM (by rfl) m_int (by rfl) (za (zQ zac (zm zB (pv 9) zb (fun _ _=>rfl)) (pv 8) (zt _)) zc)) (fun _ _=>rfl)) (za (zm zB (zM (za zb (za zb zc))) (zcN zcM (by rfl) m_int (by rfl) (za (zQ zac (zm zB (pv 9) zb (fun _ _=>rfl)) (pv 8) (zt _)) zc)) (fun _ _=>rfl)) zc)))))))))
 (zd (zaA PassesOwn.leaving rfl (zcm (zo zbk (pv 11) (zo zls (zM (za zb zc)) (zcN zcM (by rfl) m_int (by rfl) (za (zQ zac (zm zB (pv 9) zb (fun _ _=>rfl)) (pv 8) (zt _)) zc))))) (z7 (i:=12) zN.nd rfl (Or.inl rfl))
 (ze (zE (zbs (zS (zC F_law_refused hr (by omega) (by rfl) (za (pv 2) (za (pv 10) (za (pv 12) (za (pv 4) (za (pv 7) zc))))))))
 (ze (zl zaM))
 zu)))
 (zd (zE (PW.pt (zbS (zw zac (pv 7) zah (zt _)) (zbS (zw zbu (zC F_law_sort hr (by omega) (by rfl) (za (pv 6) zc)) zb (zt _)) (zbS (zw zbu (zF (zI) (by rfl) m_len (by rfl) (za (pv 6) zc)) zb (zt _)) (zbx (zw (zgP hr) (zm zA (pv 6) zb (fun _ _=>rfl)) (zJ (za (pv 5) (za zb zc))) (by rfl)))))))
 (ze (zaA PassesOwn.leaving rfl (zeu (zJ (za zb (za zb (za zb zc))))) (z7 (i:=12) zN.nd rfl (Or.inl rfl))
 (ze (zE (zbs (zS (zC F_law_refused hr (by omega) (by rfl) (za (pv 2) (za (pv 8) (za (pv 12) (za (pv 4) (za (pv 7) zc))))))))
 (ze (zl zaM))
 zu))))
 zu)
 (zd (zE (zbs (zS (zC F_law_unread hr (by omega) (by rfl) (za (pv 2) (za (pv 8) (za (pv 3) (za (pv 4) zc)))))))
 (ze (zl zaM))
 zu)
 (ze (zl (zbl (zQ zdX (zH F_found hr (by omega) (by rfl) za7 (za (pv 2) (za (pv 10) (za (pv 3) zc)))) zP (zt _)) (zba (zQ zac (zH F_size hr (by omega) (by rfl) za7 (za (pv 2) (za (pv 10) zc))) (pv 5) (zt _))))))))))))))))))))))))),?_⟩
 intro a dx hx hdx ndx
 refine zh6 hx hdx ndx fun d H1 s1 hd ex ed=>?_
 have vs1:VS H1 C a d []:=⟨⟨[],⟨⟨dx,_,ex,zma d⟩,ed⟩,.nil⟩,GoodC.nil⟩
 refine ⟨_,rfl,_,rfl,c,m,rfl,fun k vk H2 s2 rk kk=>?_⟩
 refine ⟨_,rfl,_,_,rfl,rfl,_,rfl,_,m,rfl,fun y vy H3 s3 ry ky=>?_⟩
 have s13:=s2.trans s3
 have vs3:=vs1.same s13
 have rk3:=rk.keep (Same.tups s3)
 have kd:=kk.dp
 have yd:=ky.dp
 refine ⟨_,rfl,c,66,rfl,by decide,by decide,fun x1 _ _=>?_⟩
 refine ⟨_,_,rfl,rfl,(show (0:Int) < 4 by decide),rfl,_,rfl,?_⟩
 refine ifB (fun cc=>?_) (fun cc=>?_)
 ·exact ⟨_,rfl,_,rfl,_,rfl,a,d,c,m,rfl,vs3,cl,fun H' f=>q H' (f.back (s1.trans s13) hd)⟩
 clear cc
 refine ⟨_,rfl,c,66,rfl,by decide,by decide,fun x2 _ _=>?_⟩
 refine ⟨_,_,rfl,rfl,(show (0:Int) < 4 by decide),rfl,_,rfl,?_⟩
 refine ifB (fun cc=>?_) (fun cc=>?_)
 ·exact ⟨_,rfl,_,rfl,_,rfl,a,d,c,m,rfl,vs3,cl,fun H' f=>q H' (f.back (s1.trans s13) hd)⟩
 clear cc
 refine ⟨_,rfl,_,rfl,k,y,rk3,ry,by omega,_,rfl,?_⟩
 cases zz:eqT k y with
 | true=>exact ifT rfl (q H3 (s1.trans s13))
 | false=>
 have ne:k≠y:=fun z=>by rw [z,zao] at zz;cases zz
 refine ifF rfl ?_
 refine ⟨_,rfl,c,62,rfl,by decide,by decide,fun x3 _ _=>?_⟩
 refine ⟨_,_,rfl,rfl,(show (0:Int) < 299 by decide),_,_,rfl,rfl,?_⟩
 have c0:2≤2+x3 % 299:=by have:=Int.emod_nonneg x3 (show (299:Int)≠0 by decide);omega
 have c1:2+x3 % 299≤300:=by have:=Int.emod_lt_of_pos x3 (show (0:Int) < 299 by decide);omega
 show zaZ 5 (V.int (2+x3 % 299)) _ _ _
 generalize 2+x3 % 299=cnt at c0 c1
 refine ⟨_,rfl,_,rfl,_,rfl,c,m,cnt,rfl,c0,c1,fun t vt H4 s4 rt nt=>?_⟩
 obtain ⟨gt,bt,ht⟩:=nt
 have s14:=s13.trans s4
 have vs4:=vs1.same s14
 have rk4:=rk3.keep (Same.tups s4)
 have ry4:=ry.keep (Same.tups s4)
 have gdp:=gt.dp
 have gnd:=gt.nd
 refine ⟨szl (show 2≤1000 by decide),fun pq hpq=>?_⟩
 obtain ⟨H5,eG,s5,e5⟩:=mkLs (vs:=[.str ("bad" :Str),.str ("lacks" :Str)]) hpq
 rw [eG];clear eG
 refine ⟨_,rfl,c,67,rfl,by decide,by decide,fun x4 _ _=>?_⟩
 refine ⟨_,_,rfl,rfl,(show (0:Int) < 5 by decide),rfl,.inr ⟨_,rfl,?_⟩⟩
 generalize decide (V.int (x4 % 5)=V.int 0)=b0
 have edu:∃b:Bool,b0= !b:=⟨!b0,by cases b0 <;> rfl⟩
 obtain ⟨b,rfl⟩:=edu
 have idu:atI [V.str ("bad" :Str),.str ("lacks" :Str)] (if (!b)=true then 1 else 0)=some (.str (dueS b)):=by cases b <;> rfl
 refine ⟨pq,_,_,_,rfl,rfl,SqL.of e5,idu,?_⟩
 have vs5:=vs4.same s5
 refine ⟨_,rfl,t,vt,rfl,rt.keep (Same.tups s5),gt.wf,by omega,by omega,fun H6 s6=>?_⟩
 have s46:=s5.trans s6
 have s16:=s14.trans s46
 have vs6:=vs4.same s46
 obtain ⟨kv6,vo6,_⟩:=vs6.vo
 obtain ⟨⟨dx6,fs,eo,fl⟩,_⟩:=id vo6
 have hob:∀{H':Hp},Fr1 d H6 H'→H' a=some (.ins C dx6 fs):=fun fr=>fr _ _ (vs6.ne eo (by intro kv z;cases z)) eo
 have tup:∀{H':Hp},Fr1 d H6 H'→Tups H4 H':=fun fr=>(Same.tups s46).trans (vs6.tups fr)
 have sp:=zax t
 dsimp only [zaZ]
 refine zbj (fun σ H'=>∃cs:List (Int ×Th),σ=[some (.int c),some (.int m),some (.ref a),some vk,some vy,some (.int cnt),some vt,some (.str (dueS b)),some (.int (zy t)),none,none,none,none]∧Fr1 d H6 H'∧VS H' C a d cs∧cs.length≤1∧(b=true→zL cs (zy t)=some t)∧(b=false→cs=[])) (fun N kN=>?_) ?_
 ·refine ⟨_,rfl,rfl,_,rfl,?_⟩
  cases b with
  | true=>
   refine ifT (by decide+kernel) ?_
   exact ⟨_,rfl,a,dx6,fs,rfl,eo,fl.n2,_,rfl,a,d,[],t,vt,rfl,vs6,by simp,rt.keep (Same.tups s46),gt,cl,fun H7 f7 ft7 vs7=>kN _ _ ⟨_,rfl,f7,vs7,zbf [] _ _,fun _=>zam ft7,(fun z=>by cases z)⟩⟩
  | false=>
   exact ifF (by decide+kernel) (kN _ _ ⟨[],rfl,Fr1.refl _ _,vs6,by simp,(fun z=>by cases z),fun _=>rfl⟩)
 rintro σ H7 ⟨cs,rfl,f7,vs7,hcs,hc1,hc2⟩
 refine ⟨_,rfl,szl (show 2≤1000 by decide),fun pl hpl=>?_⟩
 obtain ⟨H8,eG,s8,e8⟩:=mkLs (vs:=[.int 0,.int (zy t)]) hpl
 rw [eG];clear eG
 have f68:Fr1 d H6 H8:=f7.trans (Same.fr1 s8)
 dsimp only [zaZ]
 refine zbj (fun σ H'=>∃pk,σ=[some (.int c),some (.int m),some (.ref a),some vk,some vy,some (.int cnt),some vt,some (.str (dueS b)),some (.int (zy t)),some (.ref pk),none,none,none]∧Same H7 H'∧H' pk=some (.lst [.int (if zh y k=true then zy t else 0),.int (if zh y k=true then 0 else zy t)])) (fun N kN=>?_) ?_
 ·refine ⟨_,rfl,_,rfl,y,k,vy,vk,rfl,ry4.keep (tup f68),rk4.keep (tup f68),by omega,by omega,ky.wf,kk.wf,fun H9 s9=>⟨_,rfl,?_⟩⟩
  cases z:zh y k with
  | true=>
   rw [z] at kN
   refine ifT rfl ⟨_,rfl,szl (show 2≤1000 by decide),fun p9 h9=>?_⟩
   obtain ⟨Ha,eG,sa,ea⟩:=mkLs (vs:=[.int (zy t),.int 0]) h9
   rw [eG];clear eG
   exact kN _ _ ⟨p9,rfl,(s8.trans s9).trans sa,ea⟩
  | false=>
   rw [z] at kN
   exact ifF rfl (kN _ _ ⟨pl,rfl,s8.trans s9,s9 _ _ e8⟩)
 rintro σ H9 ⟨pk,rfl,s79,ek⟩
 have vs9:=vs7.same s79
 have f69:Fr1 d H6 H9:=f7.trans (Same.fr1 s79)
 generalize hlf:zh y k=lf at ek
 generalize hl:(if lf=true then zy t else 0)=l at ek
 generalize hr':(if lf=true then 0 else zy t)=r at ek
 have hl0:0≤l∧l≤2305843009213693951:=by rw [←hl];split <;> omega
 have hr0:0≤r∧r≤2305843009213693951:=by rw [←hr'];split <;> omega
 refine ⟨_,rfl,a,dx6,fs,rfl,hob f69,fl.n2,_,rfl,_,rfl,_,_,rfl,rfl,⟨by decide,by decide+kernel⟩,_,rfl,_,m,rfl,fun vw Ha sa rw kw=>?_⟩
 generalize hwo:ze3 (c / 7) m=wo at rw kw
 refine ⟨_,rfl,pk,_,_,_,rfl,rfl,SqL.of (sa _ _ ek),rfl,_,rfl,pk,_,_,_,rfl,rfl,SqL.of (sa _ _ ek),rfl,_,rfl,szl (show 5≤1000 by decide),fun pn hpn=>?_⟩
 have f6a:Fr1 d H6 Ha:=f69.trans (Same.fr1 sa)
 obtain ⟨Hb,eG,sb,rn⟩:=mkT (.cons (rk4.keep (tup f6a)) (.cons rw (.cons (.int l) (.cons (.int r) (.cons (.int cnt) .nil))))) hpn
 rw [eG];clear eG
 have rn':Rep Hb (Nd.th ⟨k,wo,l,r,cnt⟩) (.ref pn):=rn
 obtain ⟨nok,ngd⟩:=zaH (k:=k) (wo:=wo) (l:=l) (r:=r) (c:=cnt) kk kw (by omega) (by omega) (by omega) (by omega) (by omega) (by omega)
 have vsb:=vs9.same (sa.trans sb)
 refine ⟨a,d,cs,_,_,rfl,vsb,by omega,rn',ngd,cl,fun Hc fc ftc vsc=>?_⟩
 have f6c:Fr1 d H6 Hc:=f6a.trans ((Same.fr1 sb).trans fc)
 have lk:=zam ftc
 have lkt:b=true→zL (addT cs (zy (Nd.th ⟨k,wo,l,r,cnt⟩)) (Nd.th ⟨k,wo,l,r,cnt⟩)) (zy t)=some t:=fun z=>zaJ (hc1 z)
 have spn:=zax (Nd.th ⟨k,wo,l,r,cnt⟩)
 have ekc:=vs9.lst ((Same.fr1 (sa.trans sb)).trans fc) ek
 have hno:b=false→zy t≠zy (Nd.th ⟨k,wo,l,r,cnt⟩)→zL (addT cs (zy (Nd.th ⟨k,wo,l,r,cnt⟩)) (Nd.th ⟨k,wo,l,r,cnt⟩)) (zy t)=none:=fun z ne'=>by
  rw [hc2 z,zbT (show zL [] _=none from rfl),zcV]
  exact if_neg (Ne.symm ne')
 have hsr:zy (Nd.th ⟨k,wo,l,r,cnt⟩)=zy (.tup [k,wo,.int l,.int r,.int cnt]):=rfl
 generalize addT cs (zy (Nd.th ⟨k,wo,l,r,cnt⟩)) (Nd.th ⟨k,wo,l,r,cnt⟩)=cs' at vsc lk lkt hno
 have rest:(b=true∨zy t≠zy (Nd.th ⟨k,wo,l,r,cnt⟩))→zbh cs' k y wo (zy t) (zy (Nd.th ⟨k,wo,l,r,cnt⟩)) cnt lf b:=fun h=>by
  refine ⟨kk,ky,ne,hlf,by omega,by omega,?_,?_⟩
  ·rw [hl,hr']
   exact zc4 lk nok (show cnt < 301 by omega)
  ·cases b with
   | true=>exact zcO (lkt rfl) bt
   | false=>
    rcases h with h | h
    ·cases h
    ·exact zgB (hno rfl h)
 have s4c:Tups H4 Hc:=tup f6c
 have rest2:zbh cs' k y wo (zy t) (zy (Nd.th ⟨k,wo,l,r,cnt⟩)) cnt lf b→True:=fun _=>trivial
 generalize hroot:zy (Nd.th ⟨k,wo,l,r,cnt⟩)=root at *
 have same0:∀{H':Hp},Same Hc H'→Same H H':=fun z=>fun b o e=>z b o (Fr1.back f6c (s1.trans s16) hd b o e)
 dsimp only [zaZ]
 have dlf:decide (V.int l=V.int (zy t))=lf:=by
  rw [zR,←hl]
  cases lf with
  | true=>exact decide_eq_true rfl
  | false=>exact decide_eq_false (show¬(0:Int)=zy t by omega)
 refine zbj (fun σ H'=>σ=[some (.int c),some (.int m),some (.ref a),some vk,some vy,some (.int cnt),some vt,some (.str (dueS b)),some (.int (zy t)),some (.ref pk),some (.int root),none,none]∧H'=Hc∧zbh cs' k y wo (zy t) root cnt lf b∧(b=false→ben cs' (zy t) 301=.error false)) (fun N kN=>?_) ?_
 ·refine ⟨_,rfl,rfl,_,rfl,?_⟩
  cases b with
  | true=>exact ifF (by decide+kernel) (ifF rfl (kN _ _ ⟨rfl,rfl,rest (.inl rfl),(fun z=>by cases z)⟩))
  | false=>
   refine ifT (by decide+kernel) ⟨_,rfl,_,rfl,rfl,_,rfl,?_⟩
   rw [zR]
   by_cases hsame:zy t=root
   ·refine ifT (decide_eq_true hsame) ?_
    refine ⟨_,rfl,_,rfl,_,_,rfl,rfl,⟨by decide,by decide+kernel⟩,_,rfl,_,m,rfl,fun vw2 Hd sd rw2 kw2=>?_⟩
    rw [hwo] at rw2 kw2
    refine ⟨_,rfl,pk,_,_,_,rfl,rfl,SqL.of (sd _ _ ekc),rfl,_,rfl,pk,_,_,_,rfl,rfl,SqL.of (sd _ _ ekc),rfl,_,rfl,szl (show 5≤1000 by decide),fun pn2 hpn2=>?_⟩
    obtain ⟨He,eG,se,rn2⟩:=mkT (.cons (rk4.keep (s4c.trans (Same.tups sd))) (.cons rw2 (.cons (.int l) (.cons (.int r) (.cons (.int cnt) .nil))))) hpn2
    rw [eG];clear eG
    have nd1:=ngd.dp
    have nd2:=ngd.nd
    refine ⟨_,_,rfl,rn2,ngd.wf,Nat.lt_of_le_of_lt nd1 (by decide),Nat.le_trans nd2 (by decide),fun Hf sf=>?_⟩
    refine ⟨_,rfl,rfl,?_⟩
    have es:zy (.tup [k,wo,.int l,.int r,.int cnt])=zy t:=by rw [hsame,←hroot]
    rw [es,decide_eq_true rfl]
    exact q Hf (same0 ((sd.trans se).trans sf))
   ·exact ifF (decide_eq_false hsame) (kN _ _ ⟨rfl,rfl,rest (.inr hsame),fun _=>zgB (hno rfl hsame)⟩)
 rintro σ Hd ⟨rfl,rfl,ov,hb301⟩
 clear rest rest2 hno
 have vs0:=vsc
 have len2:∀H',Same Hd H'→SqL K H' pk [.int l,.int r]:=fun H' z=>SqL.of (z _ _ ekc)
 have rky:∀{H':Hp},Same Hd H'→Rep H' k vk∧Rep H' y vy∧Rep H' t vt:=fun z=>⟨rk4.keep (s4c.trans (Same.tups z)),ry4.keep (s4c.trans (Same.tups z)),rt.keep (s4c.trans (Same.tups z))⟩
 have ix1:atI [V.int 5,.int 4] (if lf=true then 1 else 0)=some (.int (if lf=true then 4 else 5)):=by cases lf <;> rfl
 have ix2:atI [V.int 5,.int 6] (if lf=true then 1 else 0)=some (.int (if lf=true then 6 else 5)):=by cases lf <;> rfl
 refine ⟨szl (show 2≤1000 by decide),fun z1 hz1=>?_⟩
 obtain ⟨J1,eG,j1,ez1⟩:=mkLs (vs:=[V.int 5,.int 4]) hz1
 rw [eG];clear eG
 refine ⟨_,rfl,pk,_,_,_,rfl,rfl,len2 _ j1,rfl,_,rfl,rfl,.inr ⟨_,rfl,?_⟩⟩
 rw [dlf]
 refine ⟨z1,_,_,_,rfl,rfl,SqL.of ez1,ix1,?_⟩
 refine ⟨szl (show 2≤1000 by decide),fun z2 hz2=>?_⟩
 obtain ⟨J2,eG,j2,ez2⟩:=mkLs (vs:=[V.int 5,.int 6]) hz2
 rw [eG];clear eG
 refine ⟨_,rfl,pk,_,_,_,rfl,rfl,len2 _ (j1.trans j2),rfl,_,rfl,rfl,.inr ⟨_,rfl,?_⟩⟩
 rw [dlf]
 refine ⟨z2,_,_,_,rfl,rfl,SqL.of ez2,ix2,?_⟩
 refine ⟨szl (show 7≤1000 by decide),fun pd hpd=>?_⟩
 obtain ⟨J3,eG,j3,ed3⟩:=mkLs (vs:=[V.int 0,.int 1,.int 2,.int 3,.int 7,.int (if lf=true then 4 else 5),.int (if lf=true then 6 else 5)]) hpd
 rw [eG];clear eG
 have j03:=(j1.trans j2).trans j3
 refine ⟨_,rfl,szl (show 1≤1000 by decide),fun p8 hp8=>?_⟩
 obtain ⟨J4,eG,j4,e84⟩:=mkLs (vs:=[V.int 8]) hp8
 rw [eG];clear eG
 refine ⟨_,rfl,pk,_,_,_,rfl,rfl,len2 _ (j03.trans j4),rfl,_,rfl,rfl,.inr ⟨_,rfl,?_⟩⟩
 rw [dlf]
 refine ⟨p8,_,_,rfl,rfl,e84,by split <;> decide,by split <;> decide,(by cases lf <;> exact szl (by decide)),fun p9 hp9=>?_⟩
 have e8s:(List.replicate (if lf=true then (1:Int) else 0).toNat [V.int 8]).flatten=(if lf=true then [8] else []:List Int).map V.int:=by cases lf <;> rfl
 rw [e8s]
 obtain ⟨J5,eG,j5,e95⟩:=mkLs (vs:=(if lf=true then [8] else []:List Int).map V.int) hp9
 rw [eG];clear eG
 refine ⟨pd,p9,_,_,rfl,rfl,j5 _ _ (j4 _ _ ed3),e95,(by cases lf <;> exact szl (by decide)),fun pr hpr=>?_⟩
 have eds:[V.int 0,.int 1,.int 2,.int 3,.int 7,.int (if lf=true then 4 else 5),.int (if lf=true then 6 else 5)]++(if lf=true then [8] else []:List Int).map V.int=([0,1,2,3,7,if lf=true then 4 else 5,if lf=true then 6 else 5]++if lf=true then [8] else []:List Int).map V.int:=by cases lf <;> rfl
 rw [eds]
 obtain ⟨J6,eG,j6,er6⟩:=mkLs (vs:=([0,1,2,3,7,if lf=true then 4 else 5,if lf=true then 6 else 5]++if lf=true then [8] else []:List Int).map V.int) hpr
 rw [eG];clear eG
 have j06:=((j03.trans j4).trans j5).trans j6
 have odd:=fun n=>ov.deed (n:=n)
 generalize ([0,1,2,3,7,if lf=true then 4 else 5,if lf=true then 6 else 5]++if lf=true then [8] else []:List Int)=ds at er6 odd
 refine ⟨pr,rfl,⟨_,SqL.of er6⟩,?_⟩
 refine zc5 (xs:=ds.map V.int) (fun i σ H'=>∃k12:Option V,σ=[some (.int c),some (.int m),some (.ref a),some vk,some vy,some (.int cnt),some vt,some (.str (dueS b)),some (.int (zy t)),some (.ref pk),some (.int root),some (.ref pd),k12]∧Same J6 H') ⟨_,rfl,Same.refl _⟩ ?_ ?_ ?_
 ·rintro i σ H' _ ⟨k12,rfl,sm⟩
  exact SqL.of (sm _ _ er6)
 ·rintro i z σ H' hz ⟨k12,rfl,sm⟩
  rw [List.getElem?_map] at hz
  obtain ⟨n,hn,rfl⟩:=Option.map_eq_some_iff.mp hz
  have sd:=j06.trans sm
  obtain ⟨g1,g2,g3⟩:=rky sd
  exact ⟨_,rfl,_,rfl,_,rfl,_,rfl,_,rfl,a,d,cs',root,n,y,vy,b,rfl,vs0.same sd,g2,ky,odd n (List.mem_of_getElem? hn),fun H2' s2'=>⟨_,rfl,ifF rfl ⟨_,rfl,sm.trans s2'⟩⟩⟩
 rintro σ K1 ⟨k12,rfl,sk1⟩
 have sd1:=j06.trans sk1
 obtain ⟨g1,g2,g3⟩:=rky sd1
 dsimp only
 refine zbj (fun σ H'=>∃k12:Option V,σ=[some (.int c),some (.int m),some (.ref a),some vk,some vy,some (.int cnt),some vt,some (.str (dueS b)),some (.int (zy t)),some (.ref pk),some (.int root),some (.ref pd),k12]∧Same Hd H') (fun N kN=>?_) ?_
 ·refine zll (fun z H'=>Same Hd H'∧(z=true→ben cs' (zy t) 301=.error b)) (fun N2 k2=>?_) ?_
  ·refine ⟨_,rfl,rfl,_,rfl,?_⟩
   cases b with
   | false=>exact ifT (by decide+kernel) (k2 _ _ ⟨sd1,fun _=>hb301 rfl⟩)
   | true=>
    refine ifF (by decide+kernel) ?_
    refine ⟨_,rfl,t,vt,rfl,g3,rfl,_,rfl,?_⟩
    rw [zR]
    have good:BadB 301 t→ben cs' (zy t) 301=.error true:=fun z=>zcO (lkt rfl) z
    cases t with
    | non=>exact ifT (by rfl) (k2 _ _ ⟨sd1,fun _=>good (zci rfl)⟩)
    | int i=>exact ifT (by rfl) (k2 _ _ ⟨sd1,fun _=>good (zci rfl)⟩)
    | str z=>exact ifT (by rfl) (k2 _ _ ⟨sd1,fun _=>good (zci rfl)⟩)
    | tup ts=>
     refine ifF (by rfl) ?_
     obtain ⟨tp,ys,etp,eat,rts⟩:=g3.list
     subst etp
     have hys:ys.length=ts.length:=rts.len
     refine ⟨_,rfl,tp,_,rfl,.inr (SqT.of eat),rfl,_,rfl,?_⟩
     rw [zR]
     by_cases h5:ts.length=5
     ·refine ifF (by rw [hys,h5];rfl) ?_
      have et4:ts[4]? =some (ts[4]'(by omega)):=List.getElem?_eq_getElem (by omega)
      have ey4:ys[4]? =some (ys[4]'(by omega)):=List.getElem?_eq_getElem (by omega)
      have r4:=rts.at 4 _ _ ey4 et4
      refine ⟨_,rfl,tp,_,_,_,rfl,rfl,SqT.of eat,zaI (j:=4) ey4,_,rfl,szl (show 2≤1000 by decide),fun px hpx=>?_⟩
      have sx:=zk (o:=.tup [.int cnt,.int 300]) (Same.refl K1) hpx
      have ex2:upd K1 px (.tup [.int cnt,.int 300]) px=some (.tup [.int cnt,.int 300]):=zf
      generalize upd K1 px (.tup [.int cnt,.int 300])=K2 at sx ex2
      refine ⟨px,_,[.int cnt,.int 300],_,rfl,SqT.of ex2,.cons (.int cnt) (.cons (.int 300) .nil),r4.keep (Same.tups sx),(fun u hu=>?_),?_⟩
      ·simp only [List.mem_cons,List.not_mem_nil,or_false] at hu
       rcases hu with rfl | rfl <;> exact Nat.zero_le _
      ·refine ⟨_,rfl,k2 _ _ ⟨sd1.trans sx,fun hz=>good ?_⟩⟩
       rcases ht with h | ⟨ts',e',_,h⟩
       ·exact h
       ·cases e'
        rw [et4] at h
        have hz':(!(eqT (.int cnt) ts[4] || (eqT (.int 300) ts[4] || false)))=true:=hz
        rcases h with h | h
        ·rw [Option.some.inj h,zao] at hz';cases hz'
        ·rw [Option.some.inj h,zao,Bool.true_or,Bool.or_true] at hz';cases hz'
     ·exact ifT (by rw [hys,decide_eq_false (show¬((ts.length:Nat):Int)=5 by omega)];rfl) (k2 _ _ ⟨sd1,fun _=>good (zci (ze6 h5))⟩)
  ·rintro z H' ⟨sz,hz⟩
   cases z with
   | false=>exact ifF rfl (kN _ _ ⟨_,rfl,sz⟩)
   | true=>
    refine ifT rfl ?_
    have e301:=hz rfl
    refine ⟨szl (show 3≤1000 by decide),fun pt hpt=>?_⟩
    have st:=zk (o:=.tup [.int 9,.int 10,.int 11]) (Same.refl H') hpt
    have ept:upd H' pt (.tup [.int 9,.int 10,.int 11]) pt=some (.tup [.int 9,.int 10,.int 11]):=zf
    generalize upd H' pt (.tup [.int 9,.int 10,.int 11])=H2' at st ept
    refine ⟨pt,rfl,⟨_,SqT.of ept⟩,?_⟩
    refine ze8 (xs:=[.int 9,.int 10,.int 11]) (fun i σ H3'=>∃k12:Option V,σ=[some (.int c),some (.int m),some (.ref a),some vk,some vy,some (.int cnt),some vt,some (.str (dueS b)),some (.int (zy t)),some (.ref pk),some (.int root),some (.ref pd),k12]∧Same H2' H3') ⟨_,rfl,Same.refl _⟩ ?_ ?_ ?_
    ·rintro i σ H3' _ ⟨k12,rfl,sm⟩
     exact SqT.of (sm _ _ ept)
    ·rintro i z σ H3' hz ⟨k12,rfl,sm⟩
     have sd:=(sz.trans st).trans sm
     obtain ⟨g1,g2,g3⟩:=rky sd
     have key:∃n:Int,z=.int n∧RefW cs' (zy t) n y b:=by
      match i,hz with
      | 0,hz=>cases hz;exact ⟨9,rfl,.inr (.inr (.inr (.inr (.inr (.inr (.inr (.inr (.inr (.inl ⟨rfl,ov.bn,e301⟩)))))))))⟩
      | 1,hz=>cases hz;exact ⟨10,rfl,.inr (.inr (.inr (.inr (.inr (.inr (.inr (.inr (.inr (.inr (.inl ⟨rfl,ov.bn,e301⟩))))))))))⟩
      | 2,hz=>cases hz;exact ⟨11,rfl,.inr (.inr (.inr (.inr (.inr (.inr (.inr (.inr (.inr (.inr (.inr ⟨rfl,ov.bn,e301⟩))))))))))⟩
      | n+3,hz=>cases hz
     obtain ⟨n,rfl,rf⟩:=key
     exact ⟨_,rfl,_,rfl,_,rfl,_,rfl,_,rfl,a,d,cs',zy t,n,y,vy,b,rfl,vs0.same sd,g2,ky,rf,fun H4' s4'=>⟨_,rfl,ifF rfl ⟨_,rfl,sm.trans s4'⟩⟩⟩
    ·rintro σ H3' ⟨k12,rfl,sm⟩
     exact kN _ _ ⟨_,rfl,(sz.trans st).trans sm⟩
 rintro σ K3 ⟨k12',rfl,sk3⟩
 obtain ⟨g1,g2,g3⟩:=rky sk3
 refine ⟨_,rfl,_,rfl,_,rfl,_,rfl,a,d,cs',zy t,k,y,vk,vy,rfl,vs0.same sk3,g1,g2,kk,ky,fun K4 s4'=>⟨_,rfl,ifF rfl ?_⟩⟩
 have sk4:=sk3.trans s4'
 refine ⟨_,rfl,_,rfl,_,rfl,a,d,cs',root,k,vk,_,none,rfl,vs0.same sk4,.own ov.nn ov.b1 kk rfl,by simp,(rky sk4).1,kk,fun _=>⟨[],_,rfl,rfl,fun v K5 s5' rv=>?_⟩,(by intro b' H' e;cases e)⟩
 refine ⟨rfl,_,rfl,ifT (by rw [ze9 rv kw.ne];rfl) ?_⟩
 have sk5:=sk4.trans s5'
 have esz:zai cs' root 301=.ok cnt:=by rw [zbV ov.nn,ov.b1];rfl
 refine ⟨_,rfl,_,rfl,a,d,cs',root,rfl,vs0.same sk5,fun c' ec'=>?_,(by intro b' e;rw [esz] at e;cases e)⟩
 rw [esz] at ec'
 cases ec'
 refine ⟨_,rfl,rfl,?_⟩
 rw [decide_eq_true rfl]
 exact q K5 (same0 sk5)
end
end Pv
namespace Pv
open PySem L2
abbrev zb5:Stmt:=top 78
theorem zbK:zv ["script","way","cell"] ["script"] (zg zb5):=⟨rfl,rfl,rfl,by decide+kernel,rfl,by decide+kernel,by decide+kernel⟩
theorem SqL.keepS {K:PySem.W.Frag}{H H':Hp}{a:Addr}{xs:List V}(h:SqL K H a xs)(s:Same H H'):SqL K H' a xs:=by
 rcases h with h | h
 ·rcases h with h | ⟨o,h⟩
  ·exact .inl (.inl (s _ _ h))
  ·exact .inl (.inr ⟨o,s _ _ h⟩)
 ·exact .inr h
theorem ziu (ns:List Int)(lo hi:Option Int):∃ms:List Int,cutV (ns.map V.int) lo hi=ms.map V.int∧ms.length≤ns.length:=by
 refine ⟨(ns.drop (HT.sIx ns.length 0 lo)).take (HT.sIx ns.length ns.length hi - HT.sIx ns.length 0 lo),?_,?_⟩
 ·unfold cutV
  rw [List.length_map,List.map_take,List.map_drop]
 ·rw [List.length_take,List.length_drop];omega
def zfI (K:PySem.W.Frag)(CC:Addr):Sp:=fun vs H Q E=>∃(a:Addr) (ns:List Int),vs=[.ref a]∧SqL K H a (ns.map V.int)∧ns.length≤63∧(∀H',Q (.bl true) H')∧Cl CC E
section
variable {P:Program}{w:World}{K:PySem.W.Frag}{mg:Str→Option Value}{base:Heap}{C CC:Addr}
theorem zhW (D:Dfn K mg "_law_walked" zb5 ["script"]) (F_law_cell_at:Fn P w K mg base "_law_cell_at" 1 ["script","k"] (zi1 K)) (F_law_right:FnX P w K mg base "_law_right" 29 ["cell","way"] (zgV CC)):FnX P w K mg base "_law_walked" 30 ["script"] (zfI K CC):=by
 refine D.okX (k:=29) zbK (fun vs H Q E h=>?_) (fun f cdv A outer s H vs Q E hr h=>?_)
 ·obtain ⟨a,ns,rfl,_⟩:=h;rfl
 obtain ⟨a,ns,rfl,hS,h63,q,cl⟩:=h
 refine ⟨_,(zd (zj (i:=1) zbK.nd rfl (Or.inl rfl) (zo z8 (zC F_law_cell_at hr (by omega) (by rfl) (za (pv 0) (za zb zc))) zb))
 (zd (zaA PassesOwn.leaving rfl (zcm (zo zbk (zM (za zb zc)) (za1 zbC (pv 0) (zaY zb) (zaY zb)))) (z7 (i:=2) zbK.nd rfl (Or.inl rfl))
 (ze (zE (zbs (zS (zH F_law_right hr (by omega) (by rfl) zD (za (pv 2) (za (pv 1) zc)))))
 (ze (zl zaM))
 zu)))
 (ze (zl zaM)))),?_⟩
 refine ⟨_,rfl,a,ns,0,rfl,hS,Int.le_refl 0,fun c0=>?_⟩
 refine ⟨_,_,rfl,rfl,(show (0:Int) < 2 by decide),?_⟩
 refine ⟨szl (show 1≤1000 by decide),fun p0 hp0=>?_⟩
 have s0:=zk (o:=.lst [.int 0]) (Same.refl H) hp0
 have e0:upd H p0 (.lst [.int 0]) p0=some (.lst [.int 0]):=zf
 generalize upd H p0 (.lst [.int 0])=H0 at s0 e0
 obtain ⟨ms,ems,hms⟩:=ziu ns (some 1) (some 41)
 refine ⟨_,rfl,_,rfl,_,rfl,a,_,rfl,Pv.SqL.keepS hS s0,fun pc hpc=>?_⟩
 rw [ems]
 have s1:=zk (o:=.lst (ms.map V.int)) (Same.refl H0) hpc
 have e1:upd H0 pc (.lst (ms.map V.int)) pc=some (.lst (ms.map V.int)):=zf
 generalize upd H0 pc (.lst (ms.map V.int))=H1 at s1 e1
 refine ⟨p0,pc,_,_,rfl,rfl,s1 _ _ e0,e1,szl (by rw [List.length_map];show 1+_≤1000;omega),fun pr hpr=>?_⟩
 have e2:upd H1 pr (.lst ([V.int 0]++ms.map V.int)) pr=some (.lst ([V.int 0]++ms.map V.int)):=zf
 generalize upd H1 pr (.lst ([V.int 0]++ms.map V.int))=H2 at e2
 refine ⟨pr,rfl,⟨_,SqL.of e2⟩,?_⟩
 refine zc5 (xs:=[V.int 0]++ms.map V.int) (fun i σ H'=>∃k2:Option V,σ=[some (.ref a),some (.int (c0 % 2)),k2]∧Same H2 H') ⟨_,rfl,Same.refl _⟩ ?_ ?_ ?_
 ·rintro i σ H' _ ⟨k2,rfl,sm⟩
  exact SqL.of (sm _ _ e2)
 ·rintro i y σ H' hy ⟨k2,rfl,sm⟩
  have key:∃n:Int,y=.int n:=by
   have hm:y∈ [V.int 0]++ms.map V.int:=List.mem_of_getElem? hy
   rcases List.mem_append.mp hm with h | h
   ·exact ⟨0,List.mem_singleton.mp h⟩
   ·obtain ⟨n,_,rfl⟩:=List.mem_map.mp h
    exact ⟨n,rfl⟩
  obtain ⟨n,rfl⟩:=key
  exact ⟨_,rfl,_,rfl,n,_,rfl,cl,fun H3 s3=>⟨_,rfl,ifF rfl ⟨_,rfl,sm.trans s3⟩⟩⟩
 ·rintro σ H' ⟨k2,rfl,sm⟩
  exact q H'
end
end Pv
namespace L2
open PySem PySem.Spec PyProof.Rows Px
theorem zjY {X:Cx}{K:PySem.W.Frag}{e:Expr}{f:Str}{pos:Pos}{ta:TE}(hK:X.K=K)(he:PE X e ta)(hb:attributeBase e f X.env (eval e X.env)=eval e X.env):PE X (.Attribute e f pos) (tXG K ta f):=hK ▸ zmI he hb
end L2
namespace Pv
open PySem L2
abbrev slaw:Stmt:=top 79
theorem zeQ:zv ["script","told","clash","e"] ["script"] (zg slaw):=⟨rfl,rfl,rfl,by decide+kernel,rfl,by decide+kernel,by decide+kernel⟩
def zf2 (K:PySem.W.Frag):Sp:=fun vs H Q _=>∃(a:Addr) (ns:List Int),vs=[.ref a]∧SqL K H a (ns.map V.int)∧ns.length≤63∧∀H',Q (.bl true) H'
section
variable {P:Program}{w:World}{K:PySem.W.Frag}{mg:Str→Option Value}{base:Heap}{CC:Addr}
theorem zlQ {f:Addr}{fd:FuncData}(F:Fun K "law" "law" slaw f fd) (F_law_walked:FnX P w K mg base "_law_walked" 30 ["script"] (zfI K CC)) (F_seal:Fn P w K mg base "seal" 13 ["thing"] zdy) (c_Clash:mg "Clash" =some (.ref CC)) (xc:XCls K CC) (n1:zaf K CC "one") (n2:zaf K CC "other")
  (em:PySem.W.exmOne K (.ref CC) (.ref CC)=some true):FnOk P w K mg base CX0 65 f fd ["script"] (zf2 K):=by
 refine F.ok (k:=64) zeQ (fun vs H Q E h=>?_) (fun cdv A outer s H vs Q E hr h=>?_)
 ·obtain ⟨a,ns,rfl,_⟩:=h;rfl
 obtain ⟨a,ns,rfl,hS,h63,q⟩:=h
 refine ⟨_,(zd (zj (i:=1) zeQ.nd rfl (Or.inl rfl) zaM)
 (zd (zj (i:=2) zeQ.nd rfl (Or.inl rfl) zP)
 (zd (zfS (i:=3) rfl rfl zeQ.nd rfl rfl (by rfl) c_Clash (fun xe pn E hx=>(ze (zj (i:=1) zeQ.nd rfl (Or.inl rfl) (ziI F_law_walked hr (by omega) (by rfl) hx (za (pv 0) zc))))) (fun e=>(ze (zj (i:=2) zeQ.nd rfl (Or.inl rfl) (zJ (za (zjY (K:=K) rfl (pv 3) (by rfl)) (za (zjY (K:=K) rfl (pv 3) (by rfl)) zc)))))))
 (zd (zE (zw zdX (pv 2) zP (zt _))
 (ze (zl (zbl (zQ (zd0 hr) (zm zA (pv 2) zb (fun _ _=>rfl)) (zm zA (pv 2) zb (fun _ _=>rfl)) (zt _)) (zba (zQ zac (zC F_seal hr (by omega) (by rfl) (za (zm zA (pv 2) zb (fun _ _=>rfl)) zc)) (zC F_seal hr (by omega) (by rfl) (za (zm zA (pv 2) zb (fun _ _=>rfl)) zc)) (zt _))))))
 zu)
 (ze (zl (pv 1))))))),?_⟩
 refine ⟨_,rfl,a,ns,rfl,hS,h63,fun H1=>?_,fun t1 t2 v1 v2 H1 x r1 r2 g1 g2 ne sn ex=>⟨CC,rfl,em,fun e he=>?_⟩⟩
 ·refine ⟨_,rfl,rfl,_,rfl,ifF rfl ?_⟩
  exact ⟨_,rfl,q H1⟩
 ·have xe:x≠e:=zr ex he
  have ex2:upd H1 e (exO e CC (some x) false) x=some (xdO x [("one",v1),("other",v2)]):=by rw [zq xe];exact ex
  have gd:=g1.dp
  have gd2:=g2.dp
  have gn:=g1.nd
  have gn2:=g2.nd
  refine ⟨_,rfl,e,CC,false,x,_,v1,rfl,zf,ex2,xc,n1,by rfl,_,rfl,e,CC,false,x,_,v2,rfl,zf,ex2,xc,n2,by rfl,szl (show 2≤1000 by decide),fun p hp=>?_⟩
  have tk:Tups H1 (upd (upd H1 e (exO e CC (some x) false)) p (.tup [v1,v2])):=(Tups.new he).trans (Tups.new hp)
  have ra:=r1.keep tk
  have rb:=r2.keep tk
  have ep:upd (upd H1 e (exO e CC (some x) false)) p (.tup [v1,v2]) p=some (.tup [v1,v2]):=zf
  generalize upd (upd H1 e (exO e CC (some x) false)) p (.tup [v1,v2])=H2 at ra rb ep
  have et:SqT K H2 p [v1,v2]:=SqT.of ep
  refine ⟨_,rfl,rfl,_,rfl,ifT rfl ?_⟩
  refine ⟨_,rfl,p,_,_,_,rfl,rfl,et,rfl,_,rfl,p,_,_,_,rfl,rfl,et,rfl,t1,t2,ra,rb,by omega,_,rfl,ifT (by rw [show eqT t1 t2=false from by cases z:eqT t1 t2 with | true=>exact absurd ((zaX _ _).mp z) ne | false=>rfl];rfl) ?_⟩
  refine ⟨_,rfl,p,_,_,_,rfl,rfl,et,rfl,t1,v1,rfl,ra,g1.wf,by omega,by omega,fun H3 s3=>?_⟩
  refine ⟨_,rfl,p,_,_,_,rfl,rfl,SqT.of (s3 _ _ ep),rfl,t2,v2,rfl,rb.keep (Same.tups s3),g2.wf,by omega,by omega,fun H4 s4=>?_⟩
  refine ⟨rfl,?_⟩
  rw [sn,decide_eq_true rfl]
  exact q H4
end
end Pv
namespace Pv
open PySem L2
theorem len0 {us:List Value}(h:us.length=0):us=[]:=List.length_eq_zero_iff.mp h
theorem len1 {us:List Value}(h:us.length=1):∃a,us=[a]:=List.length_eq_one_iff.mp h
theorem len2 {us:List Value}(h:us.length=2):∃a b,us=[a,b]:=by
 cases us with
 | nil=>cases h
 | cons a r=>
  obtain ⟨b,rfl⟩:=len1 (Nat.succ.inj h)
  exact ⟨a,b,rfl⟩
theorem len3 {us:List Value}(h:us.length=3):∃a b c,us=[a,b,c]:=by
 cases us with
 | nil=>cases h
 | cons a r=>
  obtain ⟨b,c,rfl⟩:=len2 (Nat.succ.inj h)
  exact ⟨a,b,c,rfl⟩
theorem len4 {us:List Value}(h:us.length=4):∃a b c d,us=[a,b,c,d]:=by
 cases us with
 | nil=>cases h
 | cons a r=>
  obtain ⟨b,c,d,rfl⟩:=len3 (Nat.succ.inj h)
  exact ⟨a,b,c,d,rfl⟩
theorem len5 {us:List Value}(h:us.length=5):∃a b c d e,us=[a,b,c,d,e]:=by
 cases us with
 | nil=>cases h
 | cons a r=>
  obtain ⟨b,c,d,e,rfl⟩:=len4 (Nat.succ.inj h)
  exact ⟨a,b,c,d,e,rfl⟩
theorem len6 {us:List Value}(h:us.length=6):∃a b c d e f,us=[a,b,c,d,e,f]:=by
 cases us with
 | nil=>cases h
 | cons a r=>
  obtain ⟨b,c,d,e,f,rfl⟩:=len5 (Nat.succ.inj h)
  exact ⟨a,b,c,d,e,f,rfl⟩
theorem zG {K:PySem.W.Frag}{h:Heap}{mg:Str→Option Value}(x:Str)(st:Stmt)(ps:List Str){f:Addr}{od an:Option Addr}{sl:Array (Option Value)}{oc kV dc pm cd ct:Value}(X:K.In h)(G:h.Ns mainGlobals mg)
  (a:PySem.W.nsIn K mainGlobals x=some (some (.ref f))) (l:K.lookup f=some ⟨oc,od,.func (PySem.W.fnOf x x (zav st) (zY st) (zg st) .none kV dc pm an cd ct),sl⟩) (c:PySem.W.codeIn K cd x=true) (k:PySem.W.keepIn K (.ref f)=true)
  (b:∀(kV doc pm:Value) (an:Option Addr) (cdv ct:Value) (us:List Value),us.length=ps.length→bindArgs (PySem.W.fnOf x x (zav st) (zY st) (zg st) .none kV doc pm an cdv ct) ⟨us,[]⟩=pure (ps.zip us)):Dfn K mg x st ps:=
 ⟨_,_,zcn l c k,(zcn l c k).binds b,PySem.W.mg_of X G a⟩
theorem zcb {K:PySem.W.Frag}{h:Heap}{mg:Str→Option Value}{x:Str}{i:Int}{t:Tok}(X:K.In h)(G:h.Ns mainGlobals mg)(a:PySem.W.nsIn K mainGlobals x=some (some (.int i t))):∃t,mg x=some (.int i t):=⟨t,PySem.W.mg_of X G a⟩
theorem zlW {l:PySem.W.OpenLaw}{w:World}{K:PySem.W.Frag}{h:Heap}{mg:Str→Option Value}{fa f:Addr}{od an:Option Addr}{sl:Array (Option Value)}{oc kV dc pm cd ct:Value}(X:K.In h)(G:h.Ns mainGlobals mg)(hfa:mg "law" =some (.ref fa))
  (a:PySem.W.nsIn K mainGlobals "law" =some (some (.ref f))) (lk:K.lookup f=some ⟨oc,od,.func (PySem.W.fnOf "law" "law" (zav slaw) (zY slaw) (zg slaw) .none kV dc pm an cd ct),sl⟩) (c:PySem.W.codeIn K cd "law" =true) (k:PySem.W.keepIn K (.ref f)=true)
  (ok:∀(base:Heap) (fd:FuncData),Fun K "law" "law" slaw f fd→FnOk l.prog w K mg base CX0 65 f fd ["script"] (zf2 K)):
  ∃fd:FuncData,(∀(s:Shared) (v:Value),BindsTo s fd ⟨[v],[]⟩ [("script",v)])∧∀base:Heap,K.In base→base.Ns mainGlobals mg→FnOk l.prog w K mg base CX0 65 fa fd ["script"] (zf2 K):=by
 have e:=hfa.symm.trans (PySem.W.mg_of X G a)
 cases e
 exact ⟨PySem.W.fnOf "law" "law" (zav slaw) (zY slaw) (zg slaw) .none kV dc pm an cd ct,fun s v=>.of_eq rfl,fun base _ _=>ok base _ (zcn lk c k)⟩
theorem walk {l:PySem.W.OpenLaw}{q:Program}{loose:List Str}{XP:(Str→Option Value)→Heap→Prop}{YP:World→Heap→Prop}{d:DefRec}{K:Params→PySem.W.Frag}(hn:l.most=some 63)(hdf:d.params.defaults=[])
  (hY:∀(w:World) (h:Heap),YP w h→(K w.params).In h)
  (F:∀(w:World) (mg:Str→Option Value) (fa:Addr) (h:Heap),(K w.params).In h→h.Ns mainGlobals mg→mg d.name=some (.ref fa)→
   ∃fd:FuncData,(∀(s:Shared) (u:Value),BindsTo s fd ⟨[u],[]⟩ [("script",u)])∧∀base:Heap,(K w.params).In base→base.Ns mainGlobals mg→FnOk l.prog w (K w.params) mg base CX0 65 fa fd ["script"] (zf2 (K w.params))):
  PySem.W.WalkO q loose XP YP l.row.toRowW d [] (fun f vs=>PySem.call f vs):=
 L2.zkM (n:=63) (k:=65) (x:= "script") (CX:=fun _=>CX0) (sp:=fun w=>zf2 (K w.params)) hn (by decide) hdf ⟨rfl,by decide,by decide⟩ hY F (fun _ _ a ns hl _ hS=>⟨a,ns,rfl,hS,hl,fun _=>rfl⟩) fun _ _ _ _ _ z=>z
end Pv
open PySem PySem.W PyProof.Rows
set_option maxRecDepth 100000 in
set_option maxHeartbeats 0 in
theorem PySem.Challenge.cw_papervault_k35_no_nodes_holds : PySem.Challenge.rw_papervault_k35_no_nodes.Holds := by
 refine holds_law Pv.said fun said=>?_
 refine holds_open (q:=Pv.VQ) (loose:=[]) (XP:=XL Pv.VQ []) (YP:=InK Pv.KK) Pv.left (InK.of Pv.addrs) InK.keeps (fun s e=>xl_of s (Bool.and_eq_true_iff.mp e).1) XL.keeps (by rfl) (by rfl) (by rfl) (fun s e=>recFacts_of (Bool.and_eq_true_iff.mp e).2) (by rfl) said (by decide+kernel) ⟨rfl,rfl,rfl,rfl,rfl,by decide+kernel⟩ ?hw ?hc
 (case hw=>w_witness2)
 k_fill
 refine Pv.walk (l:=PySem.Challenge.rw_papervault_k35_no_nodes) rfl rfl (fun w h Y=>Y) ?F
 case F=>
  intro w mg fa h KX G hmg
  have D_seal:L2.Dfn (L2.KOf KX) mg "seal" Pv.ziU ["thing"]:=by
   dsimp only [L2.KOf]
   refine' Pv.zG _ _ _ KX G ?a ?l ?c ?k ?b
   (case a=>k_is);(case l=>k_is);(case c=>k_is);(case k=>k_is)
   (case b=>intro _ _ _ _ _ _ us hl;obtain ⟨_,rfl⟩:=Pv.len1 hl;rfl)
  have D_codes:L2.Dfn (L2.KOf KX) mg "codes" Pv.zgI ["thing"]:=by
   dsimp only [L2.KOf]
   refine' Pv.zG _ _ _ KX G ?a ?l ?c ?k ?b
   (case a=>k_is);(case l=>k_is);(case c=>k_is);(case k=>k_is)
   (case b=>intro _ _ _ _ _ _ us hl;obtain ⟨_,rfl⟩:=Pv.len1 hl;rfl)
  have D_number_of:L2.Dfn (L2.KOf KX) mg "number_of" Pv.zc3 ["signs"]:=by
   dsimp only [L2.KOf]
   refine' Pv.zG _ _ _ KX G ?a ?l ?c ?k ?b
   (case a=>k_is);(case l=>k_is);(case c=>k_is);(case k=>k_is)
   (case b=>intro _ _ _ _ _ _ us hl;obtain ⟨_,rfl⟩:=Pv.len1 hl;rfl)
  have D_is_whole:L2.Dfn (L2.KOf KX) mg "is_whole" Pv.zdA ["value"]:=by
   dsimp only [L2.KOf]
   refine' Pv.zG _ _ _ KX G ?a ?l ?c ?k ?b
   (case a=>k_is);(case l=>k_is);(case c=>k_is);(case k=>k_is)
   (case b=>intro _ _ _ _ _ _ us hl;obtain ⟨_,rfl⟩:=Pv.len1 hl;rfl)
  have D_kind_of:L2.Dfn (L2.KOf KX) mg "kind_of" Pv.zef ["thing"]:=by
   dsimp only [L2.KOf]
   refine' Pv.zG _ _ _ KX G ?a ?l ?c ?k ?b
   (case a=>k_is);(case l=>k_is);(case c=>k_is);(case k=>k_is)
   (case b=>intro _ _ _ _ _ _ us hl;obtain ⟨_,rfl⟩:=Pv.len1 hl;rfl)
  have D_ahead:L2.Dfn (L2.KOf KX) mg "ahead" Pv.zgS ["one","other"]:=by
   dsimp only [L2.KOf]
   refine' Pv.zG _ _ _ KX G ?a ?l ?c ?k ?b
   (case a=>k_is);(case l=>k_is);(case c=>k_is);(case k=>k_is)
   (case b=>intro _ _ _ _ _ _ us hl;obtain ⟨_,_,rfl⟩:=Pv.len2 hl;rfl)
  have D_is_tuple_ahead:L2.Dfn (L2.KOf KX) mg "is_tuple_ahead" Pv.zaU ["one","other"]:=by
   dsimp only [L2.KOf]
   refine' Pv.zG _ _ _ KX G ?a ?l ?c ?k ?b
   (case a=>k_is);(case l=>k_is);(case c=>k_is);(case k=>k_is)
   (case b=>intro _ _ _ _ _ _ us hl;obtain ⟨_,_,rfl⟩:=Pv.len2 hl;rfl)
  have D_node_at:L2.Dfn (L2.KOf KX) mg "node_at" Pv.zd4 ["vault","root"]:=by
   dsimp only [L2.KOf]
   refine' Pv.zG _ _ _ KX G ?a ?l ?c ?k ?b
   (case a=>k_is);(case l=>k_is);(case c=>k_is);(case k=>k_is)
   (case b=>intro _ _ _ _ _ _ us hl;obtain ⟨_,_,rfl⟩:=Pv.len2 hl;rfl)
  have D_node_beneath:L2.Dfn (L2.KOf KX) mg "node_beneath" Pv.zbG ["vault","root","count"]:=by
   dsimp only [L2.KOf]
   refine' Pv.zG _ _ _ KX G ?a ?l ?c ?k ?b
   (case a=>k_is);(case l=>k_is);(case c=>k_is);(case k=>k_is)
   (case b=>intro _ _ _ _ _ _ us hl;obtain ⟨_,_,_,rfl⟩:=Pv.len3 hl;rfl)
  have D_is_node:L2.Dfn (L2.KOf KX) mg "is_node" Pv.zeA ["thing"]:=by
   dsimp only [L2.KOf]
   refine' Pv.zG _ _ _ KX G ?a ?l ?c ?k ?b
   (case a=>k_is);(case l=>k_is);(case c=>k_is);(case k=>k_is)
   (case b=>intro _ _ _ _ _ _ us hl;obtain ⟨_,rfl⟩:=Pv.len1 hl;rfl)
  have D_is_root:L2.Dfn (L2.KOf KX) mg "is_root" Pv.zd7 ["thing"]:=by
   dsimp only [L2.KOf]
   refine' Pv.zG _ _ _ KX G ?a ?l ?c ?k ?b
   (case a=>k_is);(case l=>k_is);(case c=>k_is);(case k=>k_is)
   (case b=>intro _ _ _ _ _ _ us hl;obtain ⟨_,rfl⟩:=Pv.len1 hl;rfl)
  have D_size:L2.Dfn (L2.KOf KX) mg "size" Pv.ssize ["vault","root"]:=by
   dsimp only [L2.KOf]
   refine' Pv.zG _ _ _ KX G ?a ?l ?c ?k ?b
   (case a=>k_is);(case l=>k_is);(case c=>k_is);(case k=>k_is)
   (case b=>intro _ _ _ _ _ _ us hl;obtain ⟨_,_,rfl⟩:=Pv.len2 hl;rfl)
  have D_size_beneath:L2.Dfn (L2.KOf KX) mg "size_beneath" Pv.zbF ["vault","root","count"]:=by
   dsimp only [L2.KOf]
   refine' Pv.zG _ _ _ KX G ?a ?l ?c ?k ?b
   (case a=>k_is);(case l=>k_is);(case c=>k_is);(case k=>k_is)
   (case b=>intro _ _ _ _ _ _ us hl;obtain ⟨_,_,_,rfl⟩:=Pv.len3 hl;rfl)
  have D_rank:L2.Dfn (L2.KOf KX) mg "rank" Pv.zjB ["key"]:=by
   dsimp only [L2.KOf]
   refine' Pv.zG _ _ _ KX G ?a ?l ?c ?k ?b
   (case a=>k_is);(case l=>k_is);(case c=>k_is);(case k=>k_is)
   (case b=>intro _ _ _ _ _ _ us hl;obtain ⟨_,rfl⟩:=Pv.len1 hl;rfl)
  have D_above:L2.Dfn (L2.KOf KX) mg "above" Pv.zgr ["key","other"]:=by
   dsimp only [L2.KOf]
   refine' Pv.zG _ _ _ KX G ?a ?l ?c ?k ?b
   (case a=>k_is);(case l=>k_is);(case c=>k_is);(case k=>k_is)
   (case b=>intro _ _ _ _ _ _ us hl;obtain ⟨_,_,rfl⟩:=Pv.len2 hl;rfl)
  have D_side_of:L2.Dfn (L2.KOf KX) mg "side_of" Pv.zeB ["node","key"]:=by
   dsimp only [L2.KOf]
   refine' Pv.zG _ _ _ KX G ?a ?l ?c ?k ?b
   (case a=>k_is);(case l=>k_is);(case c=>k_is);(case k=>k_is)
   (case b=>intro _ _ _ _ _ _ us hl;obtain ⟨_,_,rfl⟩:=Pv.len2 hl;rfl)
  have D_way_to:L2.Dfn (L2.KOf KX) mg "way_to" Pv.zfv ["vault","root","key"]:=by
   dsimp only [L2.KOf]
   refine' Pv.zG _ _ _ KX G ?a ?l ?c ?k ?b
   (case a=>k_is);(case l=>k_is);(case c=>k_is);(case k=>k_is)
   (case b=>intro _ _ _ _ _ _ us hl;obtain ⟨_,_,_,rfl⟩:=Pv.len3 hl;rfl)
  have D_ends_at:L2.Dfn (L2.KOf KX) mg "ends_at" Pv.zel ["way","key"]:=by
   dsimp only [L2.KOf]
   refine' Pv.zG _ _ _ KX G ?a ?l ?c ?k ?b
   (case a=>k_is);(case l=>k_is);(case c=>k_is);(case k=>k_is)
   (case b=>intro _ _ _ _ _ _ us hl;obtain ⟨_,_,rfl⟩:=Pv.len2 hl;rfl)
  have D_found:L2.Dfn (L2.KOf KX) mg "found" Pv.zgC ["vault","root","key"]:=by
   dsimp only [L2.KOf]
   refine' Pv.zG _ _ _ KX G ?a ?l ?c ?k ?b
   (case a=>k_is);(case l=>k_is);(case c=>k_is);(case k=>k_is)
   (case b=>intro _ _ _ _ _ _ us hl;obtain ⟨_,_,_,rfl⟩:=Pv.len3 hl;rfl)
  have D_is_empty:L2.Dfn (L2.KOf KX) mg "is_empty" Pv.zdF ["low","high"]:=by
   dsimp only [L2.KOf]
   refine' Pv.zG _ _ _ KX G ?a ?l ?c ?k ?b
   (case a=>k_is);(case l=>k_is);(case c=>k_is);(case k=>k_is)
   (case b=>intro _ _ _ _ _ _ us hl;obtain ⟨_,_,rfl⟩:=Pv.len2 hl;rfl)
  have D_goes_left:L2.Dfn (L2.KOf KX) mg "goes_left" Pv.zcY ["node","low"]:=by
   dsimp only [L2.KOf]
   refine' Pv.zG _ _ _ KX G ?a ?l ?c ?k ?b
   (case a=>k_is);(case l=>k_is);(case c=>k_is);(case k=>k_is)
   (case b=>intro _ _ _ _ _ _ us hl;obtain ⟨_,_,rfl⟩:=Pv.len2 hl;rfl)
  have D_goes_right:L2.Dfn (L2.KOf KX) mg "goes_right" Pv.zcA ["node","high"]:=by
   dsimp only [L2.KOf]
   refine' Pv.zG _ _ _ KX G ?a ?l ?c ?k ?b
   (case a=>k_is);(case l=>k_is);(case c=>k_is);(case k=>k_is)
   (case b=>intro _ _ _ _ _ _ us hl;obtain ⟨_,_,rfl⟩:=Pv.len2 hl;rfl)
  have D_refuse_sum:L2.Dfn (L2.KOf KX) mg "refuse_sum" Pv.zcI ["vault","node"]:=by
   dsimp only [L2.KOf]
   refine' Pv.zG _ _ _ KX G ?a ?l ?c ?k ?b
   (case a=>k_is);(case l=>k_is);(case c=>k_is);(case k=>k_is)
   (case b=>intro _ _ _ _ _ _ us hl;obtain ⟨_,_,rfl⟩:=Pv.len2 hl;rfl)
  have D_stretch:L2.Dfn (L2.KOf KX) mg "stretch" Pv.zee ["vault","root","low","high"]:=by
   dsimp only [L2.KOf]
   refine' Pv.zG _ _ _ KX G ?a ?l ?c ?k ?b
   (case a=>k_is);(case l=>k_is);(case c=>k_is);(case k=>k_is)
   (case b=>intro _ _ _ _ _ _ us hl;obtain ⟨_,_,_,_,rfl⟩:=Pv.len4 hl;rfl)
  have D_count_ahead:L2.Dfn (L2.KOf KX) mg "count_ahead" Pv.zcc ["vault","root","key"]:=by
   dsimp only [L2.KOf]
   refine' Pv.zG _ _ _ KX G ?a ?l ?c ?k ?b
   (case a=>k_is);(case l=>k_is);(case c=>k_is);(case k=>k_is)
   (case b=>intro _ _ _ _ _ _ us hl;obtain ⟨_,_,_,rfl⟩:=Pv.len3 hl;rfl)
  have D_counted:L2.Dfn (L2.KOf KX) mg "counted" Pv.zd6 ["vault","root","low","high"]:=by
   dsimp only [L2.KOf]
   refine' Pv.zG _ _ _ KX G ?a ?l ?c ?k ?b
   (case a=>k_is);(case l=>k_is);(case c=>k_is);(case k=>k_is)
   (case b=>intro _ _ _ _ _ _ us hl;obtain ⟨_,_,_,_,rfl⟩:=Pv.len4 hl;rfl)
  have D_nth:L2.Dfn (L2.KOf KX) mg "nth" Pv.snth ["vault","root","number"]:=by
   dsimp only [L2.KOf]
   refine' Pv.zG _ _ _ KX G ?a ?l ?c ?k ?b
   (case a=>k_is);(case l=>k_is);(case c=>k_is);(case k=>k_is)
   (case b=>intro _ _ _ _ _ _ us hl;obtain ⟨_,_,_,rfl⟩:=Pv.len3 hl;rfl)
  have D_with_tree:L2.Dfn (L2.KOf KX) mg "with_tree" Pv.zcX ["node","side","root","count"]:=by
   dsimp only [L2.KOf]
   refine' Pv.zG _ _ _ KX G ?a ?l ?c ?k ?b
   (case a=>k_is);(case l=>k_is);(case c=>k_is);(case k=>k_is)
   (case b=>intro _ _ _ _ _ _ us hl;obtain ⟨_,_,_,_,rfl⟩:=Pv.len4 hl;rfl)
  have D_hung:L2.Dfn (L2.KOf KX) mg "hung" Pv.zjk ["vault","way","key","root","more"]:=by
   dsimp only [L2.KOf]
   refine' Pv.zG _ _ _ KX G ?a ?l ?c ?k ?b
   (case a=>k_is);(case l=>k_is);(case c=>k_is);(case k=>k_is)
   (case b=>intro _ _ _ _ _ _ us hl;obtain ⟨_,_,_,_,_,rfl⟩:=Pv.len5 hl;rfl)
  have D_parted:L2.Dfn (L2.KOf KX) mg "parted" Pv.zkm ["vault","way","key","root","count"]:=by
   dsimp only [L2.KOf]
   refine' Pv.zG _ _ _ KX G ?a ?l ?c ?k ?b
   (case a=>k_is);(case l=>k_is);(case c=>k_is);(case k=>k_is)
   (case b=>intro _ _ _ _ _ _ us hl;obtain ⟨_,_,_,_,_,rfl⟩:=Pv.len5 hl;rfl)
  have D_part:L2.Dfn (L2.KOf KX) mg "part" Pv.zim ["vault","root","key"]:=by
   dsimp only [L2.KOf]
   refine' Pv.zG _ _ _ KX G ?a ?l ?c ?k ?b
   (case a=>k_is);(case l=>k_is);(case c=>k_is);(case k=>k_is)
   (case b=>intro _ _ _ _ _ _ us hl;obtain ⟨_,_,_,rfl⟩:=Pv.len3 hl;rfl)
  have D_place_in:L2.Dfn (L2.KOf KX) mg "place_in" Pv.zhF ["way","key"]:=by
   dsimp only [L2.KOf]
   refine' Pv.zG _ _ _ KX G ?a ?l ?c ?k ?b
   (case a=>k_is);(case l=>k_is);(case c=>k_is);(case k=>k_is)
   (case b=>intro _ _ _ _ _ _ us hl;obtain ⟨_,_,rfl⟩:=Pv.len2 hl;rfl)
  have D_put:L2.Dfn (L2.KOf KX) mg "put" Pv.sput ["vault","root","key","worth"]:=by
   dsimp only [L2.KOf]
   refine' Pv.zG _ _ _ KX G ?a ?l ?c ?k ?b
   (case a=>k_is);(case l=>k_is);(case c=>k_is);(case k=>k_is)
   (case b=>intro _ _ _ _ _ _ us hl;obtain ⟨_,_,_,_,rfl⟩:=Pv.len4 hl;rfl)
  have D_cut:L2.Dfn (L2.KOf KX) mg "cut" Pv.scut ["vault","root","key"]:=by
   dsimp only [L2.KOf]
   refine' Pv.zG _ _ _ KX G ?a ?l ?c ?k ?b
   (case a=>k_is);(case l=>k_is);(case c=>k_is);(case k=>k_is)
   (case b=>intro _ _ _ _ _ _ us hl;obtain ⟨_,_,_,rfl⟩:=Pv.len3 hl;rfl)
  have D_join:L2.Dfn (L2.KOf KX) mg "join" Pv.zi9 ["vault","left","right"]:=by
   dsimp only [L2.KOf]
   refine' Pv.zG _ _ _ KX G ?a ?l ?c ?k ?b
   (case a=>k_is);(case l=>k_is);(case c=>k_is);(case k=>k_is)
   (case b=>intro _ _ _ _ _ _ us hl;obtain ⟨_,_,_,rfl⟩:=Pv.len3 hl;rfl)
  have D_joined:L2.Dfn (L2.KOf KX) mg "joined" Pv.zfn ["vault","left","right","count"]:=by
   dsimp only [L2.KOf]
   refine' Pv.zG _ _ _ KX G ?a ?l ?c ?k ?b
   (case a=>k_is);(case l=>k_is);(case c=>k_is);(case k=>k_is)
   (case b=>intro _ _ _ _ _ _ us hl;obtain ⟨_,_,_,_,rfl⟩:=Pv.len4 hl;rfl)
  have D__law_cell_at:L2.Dfn (L2.KOf KX) mg "_law_cell_at" Pv.zbM ["script","k"]:=by
   dsimp only [L2.KOf]
   refine' Pv.zG _ _ _ KX G ?a ?l ?c ?k ?b
   (case a=>k_is);(case l=>k_is);(case c=>k_is);(case k=>k_is)
   (case b=>intro _ _ _ _ _ _ us hl;obtain ⟨_,_,rfl⟩:=Pv.len2 hl;rfl)
  have D__law_mix:L2.Dfn (L2.KOf KX) mg "_law_mix" Pv.zcR ["cell","k"]:=by
   dsimp only [L2.KOf]
   refine' Pv.zG _ _ _ KX G ?a ?l ?c ?k ?b
   (case a=>k_is);(case l=>k_is);(case c=>k_is);(case k=>k_is)
   (case b=>intro _ _ _ _ _ _ us hl;obtain ⟨_,_,rfl⟩:=Pv.len2 hl;rfl)
  have D__law_parts:L2.Dfn (L2.KOf KX) mg "_law_parts" Pv.zbD ["cell","way","least"]:=by
   dsimp only [L2.KOf]
   refine' Pv.zG _ _ _ KX G ?a ?l ?c ?k ?b
   (case a=>k_is);(case l=>k_is);(case c=>k_is);(case k=>k_is)
   (case b=>intro _ _ _ _ _ _ us hl;obtain ⟨_,_,_,rfl⟩:=Pv.len3 hl;rfl)
  have D__law_text:L2.Dfn (L2.KOf KX) mg "_law_text" Pv.zcd ["number","many"]:=by
   dsimp only [L2.KOf]
   refine' Pv.zG _ _ _ KX G ?a ?l ?c ?k ?b
   (case a=>k_is);(case l=>k_is);(case c=>k_is);(case k=>k_is)
   (case b=>intro _ _ _ _ _ _ us hl;obtain ⟨_,_,rfl⟩:=Pv.len2 hl;rfl)
  have D__law_key:L2.Dfn (L2.KOf KX) mg "_law_key" Pv.zdx ["cell","way"]:=by
   dsimp only [L2.KOf]
   refine' Pv.zG _ _ _ KX G ?a ?l ?c ?k ?b
   (case a=>k_is);(case l=>k_is);(case c=>k_is);(case k=>k_is)
   (case b=>intro _ _ _ _ _ _ us hl;obtain ⟨_,_,rfl⟩:=Pv.len2 hl;rfl)
  have D__law_worth:L2.Dfn (L2.KOf KX) mg "_law_worth" Pv.zbB ["cell","way"]:=by
   dsimp only [L2.KOf]
   refine' Pv.zG _ _ _ KX G ?a ?l ?c ?k ?b
   (case a=>k_is);(case l=>k_is);(case c=>k_is);(case k=>k_is)
   (case b=>intro _ _ _ _ _ _ us hl;obtain ⟨_,_,rfl⟩:=Pv.len2 hl;rfl)
  have D__law_sort:L2.Dfn (L2.KOf KX) mg "_law_sort" Pv.zc1 ["thing"]:=by
   dsimp only [L2.KOf]
   refine' Pv.zG _ _ _ KX G ?a ?l ?c ?k ?b
   (case a=>k_is);(case l=>k_is);(case c=>k_is);(case k=>k_is)
   (case b=>intro _ _ _ _ _ _ us hl;obtain ⟨_,rfl⟩:=Pv.len1 hl;rfl)
  have D__law_ahead:L2.Dfn (L2.KOf KX) mg "_law_ahead" Pv.zcK ["one","other"]:=by
   dsimp only [L2.KOf]
   refine' Pv.zG _ _ _ KX G ?a ?l ?c ?k ?b
   (case a=>k_is);(case l=>k_is);(case c=>k_is);(case k=>k_is)
   (case b=>intro _ _ _ _ _ _ us hl;obtain ⟨_,_,rfl⟩:=Pv.len2 hl;rfl)
  have D__law_put_in:L2.Dfn (L2.KOf KX) mg "_law_put_in" Pv.zce ["pairs","key","worth"]:=by
   dsimp only [L2.KOf]
   refine' Pv.zG _ _ _ KX G ?a ?l ?c ?k ?b
   (case a=>k_is);(case l=>k_is);(case c=>k_is);(case k=>k_is)
   (case b=>intro _ _ _ _ _ _ us hl;obtain ⟨_,_,_,rfl⟩:=Pv.len3 hl;rfl)
  have D__law_none:L2.Dfn (L2.KOf KX) mg "_law_none" Pv.zc0 ["cell","way","count"]:=by
   dsimp only [L2.KOf]
   refine' Pv.zG _ _ _ KX G ?a ?l ?c ?k ?b
   (case a=>k_is);(case l=>k_is);(case c=>k_is);(case k=>k_is)
   (case b=>intro _ _ _ _ _ _ us hl;obtain ⟨_,_,_,rfl⟩:=Pv.len3 hl;rfl)
  have D__law_beside:L2.Dfn (L2.KOf KX) mg "_law_beside" Pv.zb7 ["vault","root","way","key"]:=by
   dsimp only [L2.KOf]
   refine' Pv.zG _ _ _ KX G ?a ?l ?c ?k ?b
   (case a=>k_is);(case l=>k_is);(case c=>k_is);(case k=>k_is)
   (case b=>intro _ _ _ _ _ _ us hl;obtain ⟨_,_,_,_,rfl⟩:=Pv.len4 hl;rfl)
  have D__law_asked:L2.Dfn (L2.KOf KX) mg "_law_asked" Pv.zcq ["vault","root","way","key"]:=by
   dsimp only [L2.KOf]
   refine' Pv.zG _ _ _ KX G ?a ?l ?c ?k ?b
   (case a=>k_is);(case l=>k_is);(case c=>k_is);(case k=>k_is)
   (case b=>intro _ _ _ _ _ _ us hl;obtain ⟨_,_,_,_,rfl⟩:=Pv.len4 hl;rfl)
  have D__law_refused:L2.Dfn (L2.KOf KX) mg "_law_refused" Pv.zbI ["vault","root","way","key","due"]:=by
   dsimp only [L2.KOf]
   refine' Pv.zG _ _ _ KX G ?a ?l ?c ?k ?b
   (case a=>k_is);(case l=>k_is);(case c=>k_is);(case k=>k_is)
   (case b=>intro _ _ _ _ _ _ us hl;obtain ⟨_,_,_,_,_,rfl⟩:=Pv.len5 hl;rfl)
  have D__law_three:L2.Dfn (L2.KOf KX) mg "_law_three" Pv.zcC ["cell","way"]:=by
   dsimp only [L2.KOf]
   refine' Pv.zG _ _ _ KX G ?a ?l ?c ?k ?b
   (case a=>k_is);(case l=>k_is);(case c=>k_is);(case k=>k_is)
   (case b=>intro _ _ _ _ _ _ us hl;obtain ⟨_,_,rfl⟩:=Pv.len2 hl;rfl)
  have D__law_uneven:L2.Dfn (L2.KOf KX) mg "_law_uneven" Pv.zch ["keeper","cell","way"]:=by
   dsimp only [L2.KOf]
   refine' Pv.zG _ _ _ KX G ?a ?l ?c ?k ?b
   (case a=>k_is);(case l=>k_is);(case c=>k_is);(case k=>k_is)
   (case b=>intro _ _ _ _ _ _ us hl;obtain ⟨_,_,_,rfl⟩:=Pv.len3 hl;rfl)
  have D__law_cut_itself:L2.Dfn (L2.KOf KX) mg "_law_cut_itself" Pv.zbb ["keeper","cell","way"]:=by
   dsimp only [L2.KOf]
   refine' Pv.zG _ _ _ KX G ?a ?l ?c ?k ?b
   (case a=>k_is);(case l=>k_is);(case c=>k_is);(case k=>k_is)
   (case b=>intro _ _ _ _ _ _ us hl;obtain ⟨_,_,_,rfl⟩:=Pv.len3 hl;rfl)
  have D__law_unread:L2.Dfn (L2.KOf KX) mg "_law_unread" Pv.zb2 ["keeper","bad","key","other"]:=by
   dsimp only [L2.KOf]
   refine' Pv.zG _ _ _ KX G ?a ?l ?c ?k ?b
   (case a=>k_is);(case l=>k_is);(case c=>k_is);(case k=>k_is)
   (case b=>intro _ _ _ _ _ _ us hl;obtain ⟨_,_,_,_,rfl⟩:=Pv.len4 hl;rfl)
  have D__law_right:L2.Dfn (L2.KOf KX) mg "_law_right" Pv.zcG ["cell","way"]:=by
   dsimp only [L2.KOf]
   refine' Pv.zG _ _ _ KX G ?a ?l ?c ?k ?b
   (case a=>k_is);(case l=>k_is);(case c=>k_is);(case k=>k_is)
   (case b=>intro _ _ _ _ _ _ us hl;obtain ⟨_,_,rfl⟩:=Pv.len2 hl;rfl)
  have D__law_walked:L2.Dfn (L2.KOf KX) mg "_law_walked" Pv.zb5 ["script"]:=by
   dsimp only [L2.KOf]
   refine' Pv.zG _ _ _ KX G ?a ?l ?c ?k ?b
   (case a=>k_is);(case l=>k_is);(case c=>k_is);(case k=>k_is)
   (case b=>intro _ _ _ _ _ _ us hl;obtain ⟨_,rfl⟩:=Pv.len1 hl;rfl)
  have m_ValueError:mg "ValueError" =none:=by
   refine' PySem.W.mg_none_of KX G ?z
   (case z=>k_is)
  have m_bool:mg "bool" =none:=by
   refine' PySem.W.mg_none_of KX G ?z
   (case z=>k_is)
  have m_enumerate:mg "enumerate" =none:=by
   refine' PySem.W.mg_none_of KX G ?z
   (case z=>k_is)
  have m_int:mg "int" =none:=by
   refine' PySem.W.mg_none_of KX G ?z
   (case z=>k_is)
  have m_isinstance:mg "isinstance" =none:=by
   refine' PySem.W.mg_none_of KX G ?z
   (case z=>k_is)
  have m_len:mg "len" =none:=by
   refine' PySem.W.mg_none_of KX G ?z
   (case z=>k_is)
  have m_min:mg "min" =none:=by
   refine' PySem.W.mg_none_of KX G ?z
   (case z=>k_is)
  have m_ord:mg "ord" =none:=by
   refine' PySem.W.mg_none_of KX G ?z
   (case z=>k_is)
  have m_range:mg "range" =none:=by
   refine' PySem.W.mg_none_of KX G ?z
   (case z=>k_is)
  have m_reversed:mg "reversed" =none:=by
   refine' PySem.W.mg_none_of KX G ?z
   (case z=>k_is)
  have m_str:mg "str" =none:=by
   refine' PySem.W.mg_none_of KX G ?z
   (case z=>k_is)
  have m_tuple:mg "tuple" =none:=by
   refine' PySem.W.mg_none_of KX G ?z
   (case z=>k_is)
  have m_zip:mg "zip" =none:=by
   refine' PySem.W.mg_none_of KX G ?z
   (case z=>k_is)
  have g_BENEATH_NONE:∃t,mg "BENEATH_NONE" =some (.int 301 t):=by
   refine' Pv.zcb KX G ?z
   (case z=>k_is)
  obtain ⟨t_BENEATH_NONE,g_BENEATH_NONE⟩:=g_BENEATH_NONE
  have g_COUNT:∃t,mg "COUNT" =some (.int 4 t):=by
   refine' Pv.zcb KX G ?z
   (case z=>k_is)
  obtain ⟨t_COUNT,g_COUNT⟩:=g_COUNT
  have g_KEY:∃t,mg "KEY" =some (.int 0 t):=by
   refine' Pv.zcb KX G ?z
   (case z=>k_is)
  obtain ⟨t_KEY,g_KEY⟩:=g_KEY
  have g_LEFT:∃t,mg "LEFT" =some (.int 2 t):=by
   refine' Pv.zcb KX G ?z
   (case z=>k_is)
  obtain ⟨t_LEFT,g_LEFT⟩:=g_LEFT
  have g_MOST_NODES:∃t,mg "MOST_NODES" =some (.int 300 t):=by
   refine' Pv.zcb KX G ?z
   (case z=>k_is)
  obtain ⟨t_MOST_NODES,g_MOST_NODES⟩:=g_MOST_NODES
  have g_RIGHT:∃t,mg "RIGHT" =some (.int 3 t):=by
   refine' Pv.zcb KX G ?z
   (case z=>k_is)
  obtain ⟨t_RIGHT,g_RIGHT⟩:=g_RIGHT
  have g_WORTH:∃t,mg "WORTH" =some (.int 1 t):=by
   refine' Pv.zcb KX G ?z
   (case z=>k_is)
  obtain ⟨t_WORTH,g_WORTH⟩:=g_WORTH
  obtain ⟨CK,cK,nL,dI,dR,dL,dT⟩:∃C,L2.Cls (L2.KOf KX) C∧L2.zaf (L2.KOf KX) C "laid" ∧L2.Mkd (L2.KOf KX) mg "Keeper" C "Vault.__init__" Pv.zaT ["self"]∧L2.Mdf (L2.KOf KX) C "refuse_clash" "Vault.refuse_clash" Pv.zaq ["self","number","thing"]∧L2.Mdf (L2.KOf KX) C "lay" "Vault.lay" Pv.zb1 ["self","thing"]∧L2.Mdf (L2.KOf KX) C "thing" "Vault.thing" Pv.zbp ["self","number"]:=by
   dsimp only [L2.KOf]
   refine' L2.zbz KX (x:= "Keeper") ?n ⟨?c0,?c1,?c2,?c3,?c4,?c5⟩
   (case n=>k_is)
   (case c0=>refine' L2.zlX ?a ?b ?c ?d;(case a=>k_is);(case b=>k_is);(case c=>k_is);(case d=>k_is))
   (case c1=>unfold L2.zaf;k_is)
   (case c2=>refine' L2.zl2 (qual:= "Vault.__init__") (st:=Pv.zaT) (ps:=["self"]) KX G ?n ?mk ?a ?fn ?l ?c ?k ?kc ?b;(case n=>k_is);(case mk=>k_is);(case a=>k_is);(case fn=>k_is);(case l=>k_is);(case c=>k_is);(case k=>k_is);(case kc=>k_is);(case b=>intro _ _ _ _ _ _ us hl;obtain ⟨_,rfl⟩:=Pv.len1 hl;rfl))
   (case c3=>refine' L2.zgp (m:= "refuse_clash") (qual:= "Vault.refuse_clash") (st:=Pv.zaq) (ps:=["self","number","thing"]) ?a ?fn ?l ?c ?k ?b;(case a=>k_is);(case fn=>k_is);(case l=>k_is);(case c=>k_is);(case k=>k_is);(case b=>intro _ _ _ _ _ _ us hl;obtain ⟨_,_,_,rfl⟩:=Pv.len3 hl;rfl))
   (case c4=>refine' L2.zgp (m:= "lay") (qual:= "Vault.lay") (st:=Pv.zb1) (ps:=["self","thing"]) ?a ?fn ?l ?c ?k ?b;(case a=>k_is);(case fn=>k_is);(case l=>k_is);(case c=>k_is);(case k=>k_is);(case b=>intro _ _ _ _ _ _ us hl;obtain ⟨_,_,rfl⟩:=Pv.len2 hl;rfl))
   (case c5=>refine' L2.zgp (m:= "thing") (qual:= "Vault.thing") (st:=Pv.zbp) (ps:=["self","number"]) ?a ?fn ?l ?c ?k ?b;(case a=>k_is);(case fn=>k_is);(case l=>k_is);(case c=>k_is);(case k=>k_is);(case b=>intro _ _ _ _ _ _ us hl;obtain ⟨_,_,rfl⟩:=Pv.len2 hl;rfl))
  obtain ⟨CVaultError,CBadThing,CNoPaper,CClash,CNoState,CNoThing,CNotOn,c_VaultError,c_BadThing,c_NoPaper,c_Clash,c_NoState,c_NoThing,c_NotOn,kB,kN,xB,xN,xC,n1,n2,xM⟩:∃CVaultError CBadThing CNoPaper CClash CNoState CNoThing CNotOn,mg "VaultError" =some (.ref CVaultError)∧mg "BadThing" =some (.ref CBadThing)∧mg "NoPaper" =some (.ref CNoPaper)∧mg "Clash" =some (.ref CClash)∧mg "NoState" =some (.ref CNoState)∧mg "NoThing" =some (.ref CNoThing)∧mg "NotOn" =some (.ref CNotOn)∧Pv.RfK (L2.KOf KX) CVaultError CBadThing CNoPaper CClash CNoState CNoThing CNotOn CBadThing true∧Pv.RfK (L2.KOf KX) CVaultError CBadThing CNoPaper CClash CNoState CNoThing CNotOn CNoPaper false∧L2.XP (L2.KOf KX) mg "BadThing" CBadThing∧L2.XP (L2.KOf KX) mg "NoPaper" CNoPaper∧L2.XId (L2.KOf KX) mg "Clash" CClash "Clash.__init__" Pv.zaS ["self","one","other"]∧L2.zaf (L2.KOf KX) CClash "one" ∧L2.zaf (L2.KOf KX) CClash "other" ∧PySem.W.exmOne (L2.KOf KX) (.ref CClash) (.ref CClash)=some true:=by
   dsimp only [L2.KOf]
   refine' L2.zbz KX (x:= "VaultError") ?n0 (L2.zbz KX (x:= "BadThing") ?n1 (L2.zbz KX (x:= "NoPaper") ?n2 (L2.zbz KX (x:= "Clash") ?n3 (L2.zbz KX (x:= "NoState") ?n4 (L2.zbz KX (x:= "NoThing") ?n5 (L2.zbz KX (x:= "NotOn") ?n6 (⟨?c0,?c1,?c2,?c3,?c4,?c5,?c6,?c7,?c8,?c9,?c10,?c11,?c12,?c13,?c14⟩)))))))
   (case n0=>k_is)
   (case n1=>k_is)
   (case n2=>k_is)
   (case n3=>k_is)
   (case n4=>k_is)
   (case n5=>k_is)
   (case n6=>k_is)
   (case c0=>refine' PySem.W.mg_of KX G ?z;(case z=>k_is))
   (case c1=>refine' PySem.W.mg_of KX G ?z;(case z=>k_is))
   (case c2=>refine' PySem.W.mg_of KX G ?z;(case z=>k_is))
   (case c3=>refine' PySem.W.mg_of KX G ?z;(case z=>k_is))
   (case c4=>refine' PySem.W.mg_of KX G ?z;(case z=>k_is))
   (case c5=>refine' PySem.W.mg_of KX G ?z;(case z=>k_is))
   (case c6=>refine' PySem.W.mg_of KX G ?z;(case z=>k_is))
   (case c7=>refine' ⟨?kd,?em,?k1,?k2,?k3,?k4⟩;(case kd=>refine' ⟨?cl,?ha,?hn,?ht,?hm⟩;(case cl=>refine' L2.zc6 ?xq ?xo ?xs ?xg ?xh ?xk;(case xq=>kernel_rfl);(case xo=>kernel_rfl);(case xs=>k_is);(case xg=>k_is);(case xh=>k_is);(case xk=>k_is));(case ha=>k_is);(case hn=>first | k_is | kernel_rfl);(case ht=>first | k_is | kernel_rfl);(case hm=>first | k_is | kernel_rfl));(case em=>kernel_rfl);(case k1=>kernel_rfl);(case k2=>kernel_rfl);(case k3=>kernel_rfl);(case k4=>kernel_rfl))
   (case c8=>refine' ⟨?kd,?em,?k1,?k2,?k3,?k4⟩;(case kd=>refine' ⟨?cl,?ha,?hn,?ht,?hm⟩;(case cl=>refine' L2.zc6 ?xq ?xo ?xs ?xg ?xh ?xk;(case xq=>kernel_rfl);(case xo=>kernel_rfl);(case xs=>k_is);(case xg=>k_is);(case xh=>k_is);(case xk=>k_is));(case ha=>k_is);(case hn=>first | k_is | kernel_rfl);(case ht=>first | k_is | kernel_rfl);(case hm=>first | k_is | kernel_rfl));(case em=>kernel_rfl);(case k1=>kernel_rfl);(case k2=>kernel_rfl);(case k3=>kernel_rfl);(case k4=>kernel_rfl))
   (case c9=>refine' ⟨?cl,?ei,?m⟩;(case cl=>refine' L2.zc6 ?xq ?xo ?xs ?xg ?xh ?xk;(case xq=>kernel_rfl);(case xo=>kernel_rfl);(case xs=>k_is);(case xg=>k_is);(case xh=>k_is);(case xk=>k_is));(case ei=>kernel_rfl);(case m=>refine' PySem.W.mg_of KX G ?z;(case z=>k_is)))
   (case c10=>refine' ⟨?cl,?ei,?m⟩;(case cl=>refine' L2.zc6 ?xq ?xo ?xs ?xg ?xh ?xk;(case xq=>kernel_rfl);(case xo=>kernel_rfl);(case xs=>k_is);(case xg=>k_is);(case xh=>k_is);(case xk=>k_is));(case ei=>kernel_rfl);(case m=>refine' PySem.W.mg_of KX G ?z;(case z=>k_is)))
   (case c11=>refine' L2.zlm (qual:= "Clash.__init__") (st:=Pv.zaS) (ps:=["self","one","other"]) KX G ?n ?cl ?a ?fn ?l ?c ?k ?b;(case n=>k_is);(case cl=>refine' L2.zc6 ?xq ?xo ?xs ?xg ?xh ?xk;(case xq=>kernel_rfl);(case xo=>kernel_rfl);(case xs=>k_is);(case xg=>k_is);(case xh=>k_is);(case xk=>k_is));(case a=>k_is);(case fn=>k_is);(case l=>k_is);(case c=>k_is);(case k=>k_is);(case b=>intro _ _ _ _ _ _ us hl;obtain ⟨_,_,_,rfl⟩:=Pv.len3 hl;rfl))
   (case c12=>unfold L2.zaf;k_is)
   (case c13=>unfold L2.zaf;k_is)
   (case c14=>kernel_rfl)
  refine' Pv.zlW KX G hmg ?a ?l ?c ?k ?ok
  (case a=>k_is);(case l=>k_is);(case c=>k_is);(case k=>k_is)
  case ok=>
   intro base fd F
   have f_cell:=Pv.zgG (P:=PySem.Challenge.rw_papervault_k35_no_nodes.prog) (w:=w) (base:=base) D__law_cell_at m_len
   have f_mix:=Pv.zlz (P:=PySem.Challenge.rw_papervault_k35_no_nodes.prog) (w:=w) (base:=base) D__law_mix
   have f_parts:=Pv.zjg D__law_parts f_mix m_range m_len
   have f_text:=Pv.zje (P:=PySem.Challenge.rw_papervault_k35_no_nodes.prog) (w:=w) (base:=base) D__law_text m_range
   have f_mixD:=Pv.zkk (P:=PySem.Challenge.rw_papervault_k35_no_nodes.prog) (w:=w) (base:=base) D__law_mix
   have f_partsD:=Pv.zhJ D__law_parts f_mixD m_range m_len
   have f_textD:=Pv.ziO (P:=PySem.Challenge.rw_papervault_k35_no_nodes.prog) (w:=w) (base:=base) D__law_text m_range
   have f_worthD:=Pv.zhP D__law_worth f_partsD f_textD
   have f_num:=Pv.zfA (P:=PySem.Challenge.rw_papervault_k35_no_nodes.prog) (w:=w) (base:=base) D_number_of m_ord
   have f_codes:=Pv.zfU D_codes f_num m_isinstance m_int m_str m_range m_len 10
   have f_seal:=Pv.zke D_seal f_codes
   have f_kind:=Pv.zky (P:=PySem.Challenge.rw_papervault_k35_no_nodes.prog) (w:=w) (base:=base) D_kind_of m_isinstance m_int m_str
   have f_ahead:=Pv.zgn D_ahead D_is_tuple_ahead f_kind m_zip m_len m_isinstance m_tuple 9
   have k_init:=Pv.ziW (P:=PySem.Challenge.rw_papervault_k35_no_nodes.prog) (w:=w) (base:=base) dI cK nL
   have x_clash:=Pv.zjj (P:=PySem.Challenge.rw_papervault_k35_no_nodes.prog) (w:=w) (base:=base) xC n1 n2
   have m_refuse:=Pv.zhH dR x_clash cK nL
   have m_lay:=Pv.zkb (Pv.zlP dL m_refuse f_seal cK nL)
   have m_thing:=Pv.zie (Pv.zhD (P:=PySem.Challenge.rw_papervault_k35_no_nodes.prog) (w:=w) (base:=base) dT xN cK nL)
   have f_whole:=Pv.zif (P:=PySem.Challenge.rw_papervault_k35_no_nodes.prog) (w:=w) (base:=base) D_is_whole m_isinstance m_int m_bool
   have f_root:=Pv.zjm D_is_root f_whole
   have f_isnode:=Pv.zhB D_is_node f_root f_whole m_isinstance m_tuple m_len g_KEY g_WORTH g_LEFT g_RIGHT g_COUNT g_MOST_NODES
   have f_ben:=Pv.zkA D_node_beneath m_thing cK f_isnode xB g_COUNT
   have f_at:=Pv.zlI D_node_at f_ben g_BENEATH_NONE
   have f_sizeb:=Pv.zhC D_size_beneath f_ben g_COUNT
   have f_size:=Pv.zjQ D_size f_sizeb g_BENEATH_NONE
   have f_sum:=Pv.zj9 D_refuse_sum f_sizeb xB g_LEFT g_RIGHT g_COUNT
   have f_rank:=Pv.zkN D_rank f_seal
   have f_above:=Pv.ziR D_above f_rank f_ahead
   have f_side:=Pv.zkj D_side_of f_ahead g_KEY g_LEFT g_RIGHT
   have f_with:=Pv.zik (P:=PySem.Challenge.rw_papervault_k35_no_nodes.prog) (w:=w) (base:=base) D_with_tree g_KEY g_WORTH g_LEFT g_RIGHT
   have f_way:=Pv.zkF D_way_to f_ben f_side g_KEY g_COUNT g_BENEATH_NONE
   have f_ends:=Pv.ziq (P:=PySem.Challenge.rw_papervault_k35_no_nodes.prog) (w:=w) (base:=base) D_ends_at g_KEY m_len
   have f_found:=Pv.zh1 D_found f_way f_ends g_WORTH
   have f_put:=Pv.zkf D_put f_way
   have f_part:=Pv.zio D_part f_way
   have f_hung:=Pv.zis (P:=PySem.Challenge.rw_papervault_k35_no_nodes.prog) (w:=w) (base:=base) D_hung m_reversed
   have f_joined:=Pv.ziz D_joined f_ben f_above m_lay cK f_with g_KEY g_LEFT g_RIGHT g_COUNT m_reversed
   have f_join:=Pv.zjq D_join f_joined g_BENEATH_NONE
   have f_cut:=Pv.zkn D_cut f_way f_ends f_hung f_joined g_COUNT g_LEFT g_RIGHT
   have f_empty:=Pv.ziL D_is_empty f_ahead
   have f_goesL:=Pv.zin D_goes_left f_ahead g_KEY
   have f_goesR:=Pv.zi6 D_goes_right f_ahead g_KEY
   have f_cnt:=Pv.zkg D_count_ahead f_way f_ahead f_sizeb g_KEY g_LEFT g_COUNT
   have f_counted:=Pv.zf8 D_counted f_empty f_size f_cnt
   have f_nth:=Pv.zkS D_nth f_ben f_sizeb g_KEY g_WORTH g_LEFT g_RIGHT g_COUNT g_BENEATH_NONE
   have f_stretch:=Pv.zfW D_stretch f_empty f_ben f_goesL f_goesR f_sum f_ahead g_KEY g_WORTH g_LEFT g_RIGHT g_COUNT g_BENEATH_NONE m_len
   have f_sort:=Pv.zj2 (P:=PySem.Challenge.rw_papervault_k35_no_nodes.prog) (w:=w) (base:=base) D__law_sort m_isinstance m_int m_str
   have f_lahead:=Pv.zeZ D__law_ahead f_sort m_isinstance m_int m_str m_range m_len m_min 9
   have f_key:=Pv.zlL D__law_key f_parts f_text
   have f_worth:=Pv.zjs D__law_worth f_parts f_text
   have f_putin:=Pv.zjR D__law_put_in f_lahead m_range m_len
   have f_three:=Pv.zjI D__law_three f_key f_putin m_range
   have f_none:=Pv.zkR D__law_none f_key f_worth f_mix m_len
   have f_bes:=Pv.zkE D__law_beside f_stretch f_counted f_nth f_at f_size f_join
   have f_asked:=Pv.zkL D__law_asked f_found f_put f_cut f_part f_stretch f_bes
   have f_refd:=Pv.zkD D__law_refused f_asked kB kN c_VaultError c_NoPaper c_BadThing c_Clash c_NoState c_NoThing c_NotOn m_isinstance m_ValueError
   have f_unread:=Pv.zh3 D__law_unread f_lahead f_stretch f_counted f_nth
   have f_cutI:=Pv.zkP D__law_cut_itself f_three f_mix f_none m_lay cK f_refd f_found m_len
   have f_uneven:=Pv.zhO D__law_uneven f_three f_mix m_lay cK f_refd f_found f_stretch f_counted f_cut f_above f_seal m_len m_isinstance m_int
   have f_right:=Pv.ziV D__law_right k_init f_key f_worthD f_mix f_uneven f_cutI f_none f_seal m_lay cK f_lahead f_refd f_sort f_unread f_found f_size m_int m_len
   have f_walked:=Pv.zhW D__law_walked f_cell f_right
   exact Pv.zlQ F f_walked f_seal c_Clash xC.cl n1 n2 xM
#print axioms PySem.Challenge.cw_papervault_k35_no_nodes_holds
