import PyProof.Rows.All
import Wide.All
import OpenK.AllK
import Wide.FinOn
import Lean
import PyProof.EqAt
import PyProof.EqKinds
import PyProof.TupleCall
import PyProof.NeKinds
import PyProof.FactsAll.list
import PyProof.ListMulRoad
import PyProof.FactsAll.tuple
import PyProof.Rows.TupAdd
import PyProof.StationsW
import PyProof.RulesAs
import OpenK.KOwn
import OpenK.KMake
import PyProof.ExcClass3
import PyProof.ExcInit
import PyProof.InstStoreFacts
import PyProof.ExcAttrAll.ValueError
import PyProof.NsDelKeeps
import KE.KTryMore
import KE.KIsAll
import KE.KDictSum
import PyProof.Rows.SortWalk
import PyProof.StrOps2
import PyProof.WalkInts
import OpenK.KCls
import PyProof.DictWalks
import KE.KRevIter
import PyProof.ListNew
import PyProof.EnumMake
import PyProof.EnumFor
import PyProof.FactsAll.NoneType_1
import PyProof.DictRoadsH
import PyProof.ListRange
import PyProof.TupleOfStr
import KE.KSortTup
import PySem.Challenge.RW_papervault_k43_bad_things
set_option Elab.async false
set_option linter.all false
set_option maxRecDepth 100000
set_option maxHeartbeats 4000000
namespace L2
open PySem
def inClass (s:Stmt)(j:Nat):Stmt:=match s with
 | .ClassDef _ _ _ body _ _ _ _ _ _ _=>body.getD j (.Pass ⟨0,0,0,0⟩)
 | _=>.Pass ⟨0,0,0,0⟩
def zag (s:Stmt):Arguments:=match s with
 | .FunctionDef _ a _ _ _ _ _ _ _ _=>a
 | _=>{posonlyargs:=[],args:=[],vararg:=none,kwonlyargs:=[],kw_defaults:=[],kwarg:=none,defaults:=[]}
def zN (s:Stmt):List Stmt:=match s with
 | .FunctionDef _ _ b _ _ _ _ _ _ _=>b
 | _=>[]
def zg (s:Stmt):Scope:=match s with
 | .FunctionDef _ _ _ _ _ _ sc _ _ _=>sc
 | _=>{kind:=.function,names:=[],isGenerator:=false,isCoroutine:=false}
end L2
namespace Pv
open PySem
def top (i:Nat):Stmt:=PySem.Challenge.pw_papervault_k43_bad_things.main.body.getD i (.Pass ⟨0,0,0,0⟩)
end Pv
namespace Pv
open PySem PySem.W
abbrev dE (P:Params)(x:Str)(t:Nat)(v:Value):DictEntry:=DictEntry.mk (PyData.keyHash P x) (.str x t) v
abbrev cO (n:Str)(a:Nat)(q:Str)(b c:Nat)(l x y z w:Int)(r:Addr)(g:Bool)(r2:Addr)(e1 e2 e3 e4:Value)(t m:Int)(d:Nat):Obj:=.mk (.type "code") none (.fields #[.str n a,.str q b,.str "/claim/cut.py" c,.int l 0,.int x 0,.int y 0,.int z 0,.int w 0,.ref r,.bool g,.int 181 0,.ref r2,e1,e2,e3,e4,.int t 0,.int m 0,.str "/claim/cut.py" d]) #[]
abbrev fO (c:Value)(n q:Str)(st:Stmt)(g:Addr)(cl:List (Str ×Addr))(df kd doc md:Value)(an:Option Addr)(cd ct:Value)(bl:Addr):Obj:=.mk c none (.func (.mk n q (L2.zag st) (.stmts (L2.zN st)) (L2.zg st) g cl df kd doc md an cd ct bl)) #[]
abbrev f0 (n q:Str)(st:Stmt):Obj:=fO .none n q st 0 [] .none .none .none .none none .none .none 0
abbrev f1 (n q:Str)(st:Stmt)(m:Str)(k:Nat)(r:Addr):Obj:=fO (.type "function") n q st 3 [] .none .none .none (.str m k) none (.ref r) .none 0
abbrev tO (a:Array Value):Obj:=.mk (.type "tuple") none (.seq a) #[]
abbrev dO (a:Array DictEntry)(n:Nat):Obj:=.mk (.type "dict") none (.dict a n) #[]
def sp:List Obj→List Obj ×List Obj
 | []=>([],[])
 | x::r=>(x::(sp r).2,(sp r).1)
def bt:Nat→List Obj→BT
 | 0,_=>.nil
 | _+1,[]=>.nil
 | n+1,x::r=>.node x (bt n (sp r).1) (bt n (sp r).2)
def wv:List Nat→List Obj→List Obj→List Obj
 | [],_,_=>[]
 | n::r,a,b=>a.take n++wv r b (a.drop n)
noncomputable section
abbrev oo0 (P:Params):Obj:=dO #[dE P "__name__" 165 (.str "__main__" 164),dE P "__doc__" 166 .none,dE P "__package__" 167 .none,dE P "__loader__" 168 (.builtin "__main__.__loader__#opaque"),dE P "__spec__" 169 .none,dE P "__annotations__" 170 (.ref 6),dE P "__builtins__" 171 (.ref 4),dE P "__file__" 173 (.str "/claim/cut.py" 172),dE P "__cached__" 174 .none] 9
abbrev oo1 (P:Params):Obj:=dO #[dE P "__name__" 165 (.str "papervault.things" 340),dE P "__doc__" 166 .none,dE P "__package__" 167 .none,dE P "__loader__" 168 (.builtin "__main__.__loader__#opaque"),dE P "__spec__" 169 .none,dE P "__annotations__" 170 (.ref 6),dE P "__builtins__" 171 (.ref 4),dE P "__file__" 173 (.str "/claim/cut.py" 172),dE P "__cached__" 174 .none,dE P "VaultError" 206 (.ref 24),dE P "NoThing" 222 (.ref 37),dE P "NoPaper" 238 (.ref 49),dE P "BadThing" 254 (.ref 61),dE P "Clash" 281 (.ref 80),dE P "NotOn" 297 (.ref 92),dE P "NoState" 313 (.ref 104),dE P "seal" 324 (.ref 113),dE P "codes" 330 (.ref 118),dE P "number_of" 339 (.ref 125),dE P "MOST_SIGNS" 343 (.int 60 342),dE P "MOST_PARTS" 345 (.int 40 344),dE P "MOST_DEEP" 347 (.int 5 346),dE P "PERCENT" 349 (.int 37 348),dE P "is_whole" 356 (.ref 132),dE P "is_thing" 363 (.ref 139),dE P "is_thing_within" 371 (.ref 146),dE P "is_tuple_within" 380 (.ref 153),dE P "has_signs_of_things" 388 (.ref 160)] 28
abbrev oo2 (P:Params):Obj:=.mk .none none (.fields #[.int 2 0,.int 0 0,.ref 20,.int 4 0,.int 0 0,.ref 33,.int 6 0,.int 0 0,.ref 45,.int 8 0,.int 0 0,.ref 57,.int 10 0,.int 0 0,.ref 69,.int 15 0,.int 0 0,.ref 88,.int 17 0,.int 0 0,.ref 100,.int 20 0,.int 0 0,.ref 112,.int 25 0,.int 0 0,.ref 117,.int 38 0,.int 0 0,.ref 124,.int 48 0,.int 0 0,.ref 131,.int 50 0,.int 0 0,.ref 138,.int 52 0,.int 0 0,.ref 145,.int 60 0,.int 0 0,.ref 152,.int 67 0,.int 0 0,.ref 159]) #[]
abbrev oo3 (P:Params):Obj:=dO #[dE P "__name__" 165 (.str "papervault.asks" 796),dE P "__doc__" 166 .none,dE P "__package__" 167 .none,dE P "__loader__" 168 (.builtin "__main__.__loader__#opaque"),dE P "__spec__" 169 .none,dE P "__annotations__" 170 (.ref 6),dE P "__builtins__" 171 (.ref 4),dE P "__file__" 173 (.str "/claim/cut.py" 172),dE P "__cached__" 174 .none,dE P "VaultError" 206 (.ref 24),dE P "NoThing" 222 (.ref 37),dE P "NoPaper" 238 (.ref 49),dE P "BadThing" 254 (.ref 61),dE P "Clash" 281 (.ref 80),dE P "NotOn" 297 (.ref 92),dE P "NoState" 313 (.ref 104),dE P "seal" 324 (.ref 113),dE P "codes" 330 (.ref 118),dE P "number_of" 339 (.ref 125),dE P "MOST_SIGNS" 343 (.int 60 342),dE P "MOST_PARTS" 345 (.int 40 344),dE P "MOST_DEEP" 347 (.int 5 346),dE P "PERCENT" 349 (.int 37 348),dE P "is_whole" 356 (.ref 132),dE P "is_thing" 363 (.ref 139),dE P "is_thing_within" 371 (.ref 146),dE P "is_tuple_within" 380 (.ref 153),dE P "has_signs_of_things" 388 (.ref 160),dE P "kind_of" 395 (.ref 167),dE P "ahead" 404 (.ref 174),dE P "is_tuple_ahead" 414 (.ref 181),dE P "Vault" 470 (.ref 219),dE P "Witness" 495 (.ref 240),dE P "checked" 506 (.ref 249),dE P "KEY" 510 (.int 0 509),dE P "WORTH" 512 (.int 1 511),dE P "LEFT" 514 (.int 2 513),dE P "RIGHT" 516 (.int 3 515),dE P "COUNT" 518 (.int 4 517),dE P "MOST_NODES" 520 (.int 300 519),dE P "BENEATH_NONE" 522 (.int 301 521),dE P "node_beneath" 532 (.ref 256),dE P "is_node" 539 (.ref 263),dE P "is_root" 546 (.ref 270),dE P "size" 554 (.ref 277),dE P "size_beneath" 563 (.ref 284),dE P "rank" 570 (.ref 291),dE P "above" 580 (.ref 298),dE P "side_of" 590 (.ref 305),dE P "way_to" 602 (.ref 312),dE P "ends_at" 610 (.ref 319),dE P "found" 620 (.ref 326),dE P "is_empty" 628 (.ref 333),dE P "goes_left" 636 (.ref 340),dE P "goes_right" 644 (.ref 347),dE P "refuse_sum" 654 (.ref 354),dE P "stretch" 668 (.ref 361),dE P "count_ahead" 679 (.ref 368),dE P "counted" 690 (.ref 375),dE P "nth" 702 (.ref 382),dE P "with_tree" 712 (.ref 389),dE P "hung" 724 (.ref 396),dE P "parted" 740 (.ref 403),dE P "place_in" 750 (.ref 410),dE P "put" 766 (.ref 417),dE P "cut" 777 (.ref 424),dE P "joined" 795 (.ref 431)] 67
abbrev oo4 (P:Params):Obj:=.mk .none none (.fields #[.int 2 0,.int 0 0,.ref 20,.int 4 0,.int 0 0,.ref 33,.int 6 0,.int 0 0,.ref 45,.int 8 0,.int 0 0,.ref 57,.int 10 0,.int 0 0,.ref 69,.int 15 0,.int 0 0,.ref 88,.int 17 0,.int 0 0,.ref 100,.int 20 0,.int 0 0,.ref 112,.int 25 0,.int 0 0,.ref 117,.int 38 0,.int 0 0,.ref 124,.int 48 0,.int 0 0,.ref 131,.int 50 0,.int 0 0,.ref 138,.int 52 0,.int 0 0,.ref 145,.int 60 0,.int 0 0,.ref 152,.int 67 0,.int 0 0,.ref 159,.int 72 0,.int 0 0,.ref 166,.int 80 0,.int 0 0,.ref 173,.int 89 0,.int 0 0,.ref 180,.int 95 0,.int 0 0,.ref 187,.int 114 0,.int 0 0,.ref 229,.int 123 0,.int 0 0,.ref 248,.int 133 0,.int 0 0,.ref 255,.int 138 0,.int 0 0,.ref 262,.int 146 0,.int 0 0,.ref 269,.int 148 0,.int 0 0,.ref 276,.int 150 0,.int 0 0,.ref 283,.int 154 0,.int 0 0,.ref 290,.int 156 0,.int 0 0,.ref 297,.int 163 0,.int 0 0,.ref 304,.int 165 0,.int 0 0,.ref 311,.int 176 0,.int 0 0,.ref 318,.int 178 0,.int 0 0,.ref 325,.int 181 0,.int 0 0,.ref 332,.int 183 0,.int 0 0,.ref 339,.int 185 0,.int 0 0,.ref 346,.int 187 0,.int 0 0,.ref 353,.int 192 0,.int 0 0,.ref 360,.int 213 0,.int 0 0,.ref 367,.int 222 0,.int 0 0,.ref 374,.int 229 0,.int 0 0,.ref 381,.int 247 0,.int 0 0,.ref 388,.int 251 0,.int 0 0,.ref 395,.int 255 0,.int 0 0,.ref 402,.int 268 0,.int 0 0,.ref 409,.int 273 0,.int 0 0,.ref 416,.int 284 0,.int 0 0,.ref 423,.int 290 0,.int 0 0,.ref 430]) #[]
abbrev oo5 (P:Params):Obj:=dO #[dE P "__name__" 165 (.str "papervault.asks" 796),dE P "__doc__" 166 .none,dE P "__package__" 167 .none,dE P "__loader__" 168 (.builtin "__main__.__loader__#opaque"),dE P "__spec__" 169 .none,dE P "__annotations__" 170 (.ref 6),dE P "__builtins__" 171 (.ref 4),dE P "__file__" 173 (.str "/claim/cut.py" 172),dE P "__cached__" 174 .none,dE P "VaultError" 206 (.ref 24),dE P "NoThing" 222 (.ref 37),dE P "NoPaper" 238 (.ref 49),dE P "BadThing" 254 (.ref 61),dE P "Clash" 281 (.ref 80),dE P "NotOn" 297 (.ref 92),dE P "NoState" 313 (.ref 104),dE P "seal" 324 (.ref 113),dE P "codes" 330 (.ref 118),dE P "number_of" 339 (.ref 125),dE P "MOST_SIGNS" 343 (.int 60 342),dE P "MOST_PARTS" 345 (.int 40 344),dE P "MOST_DEEP" 347 (.int 5 346),dE P "PERCENT" 349 (.int 37 348),dE P "is_whole" 356 (.ref 132),dE P "is_thing" 363 (.ref 139),dE P "is_thing_within" 371 (.ref 146),dE P "is_tuple_within" 380 (.ref 153),dE P "has_signs_of_things" 388 (.ref 160),dE P "kind_of" 395 (.ref 167),dE P "ahead" 404 (.ref 174),dE P "is_tuple_ahead" 414 (.ref 181),dE P "Vault" 470 (.ref 219),dE P "Witness" 495 (.ref 240),dE P "checked" 506 (.ref 249),dE P "KEY" 510 (.int 0 509),dE P "WORTH" 512 (.int 1 511),dE P "LEFT" 514 (.int 2 513),dE P "RIGHT" 516 (.int 3 515),dE P "COUNT" 518 (.int 4 517),dE P "MOST_NODES" 520 (.int 300 519),dE P "BENEATH_NONE" 522 (.int 301 521),dE P "node_beneath" 532 (.ref 256),dE P "is_node" 539 (.ref 263),dE P "is_root" 546 (.ref 270),dE P "size" 554 (.ref 277),dE P "size_beneath" 563 (.ref 284),dE P "rank" 570 (.ref 291),dE P "above" 580 (.ref 298),dE P "side_of" 590 (.ref 305),dE P "way_to" 602 (.ref 312),dE P "ends_at" 610 (.ref 319),dE P "found" 620 (.ref 326),dE P "is_empty" 628 (.ref 333),dE P "goes_left" 636 (.ref 340),dE P "goes_right" 644 (.ref 347),dE P "refuse_sum" 654 (.ref 354),dE P "stretch" 668 (.ref 361),dE P "count_ahead" 679 (.ref 368),dE P "counted" 690 (.ref 375),dE P "nth" 702 (.ref 382),dE P "with_tree" 712 (.ref 389),dE P "hung" 724 (.ref 396),dE P "parted" 740 (.ref 403),dE P "place_in" 750 (.ref 410),dE P "put" 766 (.ref 417),dE P "cut" 777 (.ref 424),dE P "joined" 795 (.ref 431),dE P "Ask" 826 (.ref 448),dE P "Find" 860 (.ref 476),dE P "Stretch" 896 (.ref 502),dE P "Count" 932 (.ref 528),dE P "Nth" 966 (.ref 554),dE P "Put" 1002 (.ref 580)] 73
abbrev oo6 (P:Params):Obj:=.mk .none none (.fields #[.int 2 0,.int 0 0,.ref 20,.int 4 0,.int 0 0,.ref 33,.int 6 0,.int 0 0,.ref 45,.int 8 0,.int 0 0,.ref 57,.int 10 0,.int 0 0,.ref 69,.int 15 0,.int 0 0,.ref 88,.int 17 0,.int 0 0,.ref 100,.int 20 0,.int 0 0,.ref 112,.int 25 0,.int 0 0,.ref 117,.int 38 0,.int 0 0,.ref 124,.int 48 0,.int 0 0,.ref 131,.int 50 0,.int 0 0,.ref 138,.int 52 0,.int 0 0,.ref 145,.int 60 0,.int 0 0,.ref 152,.int 67 0,.int 0 0,.ref 159,.int 72 0,.int 0 0,.ref 166,.int 80 0,.int 0 0,.ref 173,.int 89 0,.int 0 0,.ref 180,.int 95 0,.int 0 0,.ref 187,.int 114 0,.int 0 0,.ref 229,.int 123 0,.int 0 0,.ref 248,.int 133 0,.int 0 0,.ref 255,.int 138 0,.int 0 0,.ref 262,.int 146 0,.int 0 0,.ref 269,.int 148 0,.int 0 0,.ref 276,.int 150 0,.int 0 0,.ref 283,.int 154 0,.int 0 0,.ref 290,.int 156 0,.int 0 0,.ref 297,.int 163 0,.int 0 0,.ref 304,.int 165 0,.int 0 0,.ref 311,.int 176 0,.int 0 0,.ref 318,.int 178 0,.int 0 0,.ref 325,.int 181 0,.int 0 0,.ref 332,.int 183 0,.int 0 0,.ref 339,.int 185 0,.int 0 0,.ref 346,.int 187 0,.int 0 0,.ref 353,.int 192 0,.int 0 0,.ref 360,.int 213 0,.int 0 0,.ref 367,.int 222 0,.int 0 0,.ref 374,.int 229 0,.int 0 0,.ref 381,.int 247 0,.int 0 0,.ref 388,.int 251 0,.int 0 0,.ref 395,.int 255 0,.int 0 0,.ref 402,.int 268 0,.int 0 0,.ref 409,.int 273 0,.int 0 0,.ref 416,.int 284 0,.int 0 0,.ref 423,.int 290 0,.int 0 0,.ref 430,.int 311 0,.int 0 0,.ref 437,.int 315 0,.int 0 0,.ref 458,.int 322 0,.int 0 0,.ref 484,.int 330 0,.int 0 0,.ref 510,.int 338 0,.int 0 0,.ref 536,.int 345 0,.int 0 0,.ref 562]) #[]
abbrev oo7 (P:Params):Obj:=.mk (.type "type") none (.cls (ClassData.mk "Ask" [.type "object"] [.ref 448,.type "object"] 447 "Ask" true [] [.ref 476,.ref 502,.ref 528,.ref 554,.ref 580] false none false)) #[none,none,some (.str "Ask" 798),some (.str "Ask" 806),some (.builtin "object.__new__"),some (.bool true)]
def KK:Params→Frag:=fun P=>
List.cons (Prod.mk (nat_lit 2) (.mk .none none (.dict #[]) #[])) (
List.cons (Prod.mk (nat_lit 3) (dO #[dE P "__name__" 165 (.str "law_papervault_k43_bad_things" 1037),dE P "__doc__" 166 .none,dE P "__package__" 167 .none,dE P "__loader__" 168 (.builtin "__main__.__loader__#opaque"),dE P "__spec__" 169 .none,dE P "__annotations__" 170 (.ref 6),dE P "__builtins__" 171 (.ref 4),dE P "__file__" 173 (.str "/claim/cut.py" 172),dE P "__cached__" 174 .none,dE P "VaultError" 206 (.ref 24),dE P "NoThing" 222 (.ref 37),dE P "NoPaper" 238 (.ref 49),dE P "BadThing" 254 (.ref 61),dE P "Clash" 281 (.ref 80),dE P "NotOn" 297 (.ref 92),dE P "NoState" 313 (.ref 104),dE P "seal" 324 (.ref 113),dE P "codes" 330 (.ref 118),dE P "number_of" 339 (.ref 125),dE P "MOST_SIGNS" 343 (.int 60 342),dE P "MOST_PARTS" 345 (.int 40 344),dE P "MOST_DEEP" 347 (.int 5 346),dE P "PERCENT" 349 (.int 37 348),dE P "is_whole" 356 (.ref 132),dE P "is_thing" 363 (.ref 139),dE P "is_thing_within" 371 (.ref 146),dE P "is_tuple_within" 380 (.ref 153),dE P "has_signs_of_things" 388 (.ref 160),dE P "kind_of" 395 (.ref 167),dE P "ahead" 404 (.ref 174),dE P "is_tuple_ahead" 414 (.ref 181),dE P "Vault" 470 (.ref 219),dE P "Witness" 495 (.ref 240),dE P "checked" 506 (.ref 249),dE P "KEY" 510 (.int 0 509),dE P "WORTH" 512 (.int 1 511),dE P "LEFT" 514 (.int 2 513),dE P "RIGHT" 516 (.int 3 515),dE P "COUNT" 518 (.int 4 517),dE P "MOST_NODES" 520 (.int 300 519),dE P "BENEATH_NONE" 522 (.int 301 521),dE P "node_beneath" 532 (.ref 256),dE P "is_node" 539 (.ref 263),dE P "is_root" 546 (.ref 270),dE P "size" 554 (.ref 277),dE P "size_beneath" 563 (.ref 284),dE P "rank" 570 (.ref 291),dE P "above" 580 (.ref 298),dE P "side_of" 590 (.ref 305),dE P "way_to" 602 (.ref 312),dE P "ends_at" 610 (.ref 319),dE P "found" 620 (.ref 326),dE P "is_empty" 628 (.ref 333),dE P "goes_left" 636 (.ref 340),dE P "goes_right" 644 (.ref 347),dE P "refuse_sum" 654 (.ref 354),dE P "stretch" 668 (.ref 361),dE P "count_ahead" 679 (.ref 368),dE P "counted" 690 (.ref 375),dE P "nth" 702 (.ref 382),dE P "with_tree" 712 (.ref 389),dE P "hung" 724 (.ref 396),dE P "parted" 740 (.ref 403),dE P "place_in" 750 (.ref 410),dE P "put" 766 (.ref 417),dE P "cut" 777 (.ref 424),dE P "joined" 795 (.ref 431),dE P "Ask" 826 (.ref 448),dE P "Find" 860 (.ref 476),dE P "Stretch" 896 (.ref 502),dE P "Count" 932 (.ref 528),dE P "Nth" 966 (.ref 554),dE P "Put" 1002 (.ref 580),dE P "Cut" 1036 (.ref 606),dE P "_law_row" 1046 (.ref 615),dE P "_law_take" 1055 (.ref 622),dE P "_law_text" 1061 (.ref 627),dE P "_law_thing" 1067 (.ref 632),dE P "_law_spoilt" 1082 (.ref 639),dE P "_law_kinds" 1094 (.ref 646),dE P "_law_ask" 1105 (.ref 653),dE P "_law_is_bad" 1123 (.ref 660),dE P "_law_is_good" 1136 (.ref 667),dE P "_law_ladder" 1149 (.ref 674),dE P "_law_held" 1158 (.ref 681),dE P "law" 1168 (.ref 688)] 86)) (
List.cons (Prod.mk (nat_lit 15) (tO #[.type "ValueError"])) (
List.cons (Prod.mk (nat_lit 22) (tO #[])) (
List.cons (Prod.mk (nat_lit 23) (dO #[dE P "__module__" 196 (.str "papervault.errors" 187),dE P "__firstlineno__" 200 (.int 2 199),dE P "__static_attributes__" 201 (.ref 22),dE P "__weakref__" 203 (.ref 25),dE P "__doc__" 204 .none] 3)) (
List.cons (Prod.mk (nat_lit 24) (.mk (.type "type") none (.cls (ClassData.mk "VaultError" [.type "ValueError"] [.ref 24,.type "ValueError",.type "Exception",.type "BaseException",.type "object"] 23 "VaultError" true [] [.ref 37,.ref 49,.ref 61,.ref 80,.ref 92,.ref 104] false none false)) #[some (.ref 15),none,some (.str "VaultError" 189),some (.str "VaultError" 197),some (.builtin "ValueError.__new__"),some (.bool true)])) (
List.cons (Prod.mk (nat_lit 25) (.mk (.type "getset_descriptor") none (.fields #[.str "__weakref__" 202,.ref 24,.builtin "ExceptionGroup.__weakref__",.none]) #[])) (
List.cons (Prod.mk (nat_lit 28) (tO #[.ref 24])) (
List.cons (Prod.mk (nat_lit 35) (tO #[])) (
List.cons (Prod.mk (nat_lit 36) (dO #[dE P "__module__" 214 (.str "papervault.errors" 187),dE P "__firstlineno__" 218 (.int 4 217),dE P "__static_attributes__" 219 (.ref 35),dE P "__doc__" 220 .none] 2)) (
List.cons (Prod.mk (nat_lit 37) (.mk (.type "type") none (.cls (ClassData.mk "NoThing" [.ref 24] [.ref 37,.ref 24,.type "ValueError",.type "Exception",.type "BaseException",.type "object"] 36 "NoThing" true [] [] false none false)) #[some (.ref 28),none,some (.str "NoThing" 207),some (.str "NoThing" 215),some (.builtin "ValueError.__new__"),some (.bool true)])) (
List.cons (Prod.mk (nat_lit 40) (tO #[.ref 24])) (
List.cons (Prod.mk (nat_lit 47) (tO #[])) (
List.cons (Prod.mk (nat_lit 48) (dO #[dE P "__module__" 230 (.str "papervault.errors" 187),dE P "__firstlineno__" 234 (.int 6 233),dE P "__static_attributes__" 235 (.ref 47),dE P "__doc__" 236 .none] 2)) (
List.cons (Prod.mk (nat_lit 49) (.mk (.type "type") none (.cls (ClassData.mk "NoPaper" [.ref 24] [.ref 49,.ref 24,.type "ValueError",.type "Exception",.type "BaseException",.type "object"] 48 "NoPaper" true [] [] false none false)) #[some (.ref 40),none,some (.str "NoPaper" 223),some (.str "NoPaper" 231),some (.builtin "ValueError.__new__"),some (.bool true)])) (
List.cons (Prod.mk (nat_lit 52) (tO #[.ref 24])) (
List.cons (Prod.mk (nat_lit 59) (tO #[])) (
List.cons (Prod.mk (nat_lit 60) (dO #[dE P "__module__" 246 (.str "papervault.errors" 187),dE P "__firstlineno__" 250 (.int 8 249),dE P "__static_attributes__" 251 (.ref 59),dE P "__doc__" 252 .none] 2)) (
List.cons (Prod.mk (nat_lit 61) (.mk (.type "type") none (.cls (ClassData.mk "BadThing" [.ref 24] [.ref 61,.ref 24,.type "ValueError",.type "Exception",.type "BaseException",.type "object"] 60 "BadThing" true [] [] false none false)) #[some (.ref 52),none,some (.str "BadThing" 239),some (.str "BadThing" 247),some (.builtin "ValueError.__new__"),some (.bool true)])) (
List.cons (Prod.mk (nat_lit 64) (tO #[.ref 24])) (
List.cons (Prod.mk (nat_lit 71) (tO #[])) (
List.cons (Prod.mk (nat_lit 73) (tO #[.str "self" 270,.str "one" 271,.str "other" 272])) (
List.cons (Prod.mk (nat_lit 74) (tO #[])) (
List.cons (Prod.mk (nat_lit 76) (cO "__init__" 267 "Clash.__init__" 268 269 12 3 0 0 3 71 true 72 .none (.ref 73) (.ref 74) (.ref 75) 273 12 274)) (
List.cons (Prod.mk (nat_lit 77) (f1 "__init__" "Clash.__init__" (L2.inClass (Pv.top 5) 0) "papervault.errors" 187 76)) (
List.cons (Prod.mk (nat_lit 78) (tO #[.str "one" 276,.str "other" 277])) (
List.cons (Prod.mk (nat_lit 79) (dO #[dE P "__module__" 262 (.str "papervault.errors" 187),dE P "__firstlineno__" 266 (.int 10 265),dE P "__init__" 275 (.ref 77),dE P "__static_attributes__" 278 (.ref 78),dE P "__doc__" 279 .none] 2)) (
List.cons (Prod.mk (nat_lit 80) (.mk (.type "type") none (.cls (ClassData.mk "Clash" [.ref 24] [.ref 80,.ref 24,.type "ValueError",.type "Exception",.type "BaseException",.type "object"] 79 "Clash" true [] [] false none false)) #[some (.ref 64),none,some (.str "Clash" 255),some (.str "Clash" 263),some (.builtin "ValueError.__new__"),some (.bool true)])) (
List.cons (Prod.mk (nat_lit 83) (tO #[.ref 24])) (
List.cons (Prod.mk (nat_lit 90) (tO #[])) (
List.cons (Prod.mk (nat_lit 91) (dO #[dE P "__module__" 289 (.str "papervault.errors" 187),dE P "__firstlineno__" 293 (.int 15 292),dE P "__static_attributes__" 294 (.ref 90),dE P "__doc__" 295 .none] 2)) (
List.cons (Prod.mk (nat_lit 92) (.mk (.type "type") none (.cls (ClassData.mk "NotOn" [.ref 24] [.ref 92,.ref 24,.type "ValueError",.type "Exception",.type "BaseException",.type "object"] 91 "NotOn" true [] [] false none false)) #[some (.ref 83),none,some (.str "NotOn" 282),some (.str "NotOn" 290),some (.builtin "ValueError.__new__"),some (.bool true)])) (
List.cons (Prod.mk (nat_lit 95) (tO #[.ref 24])) (
List.cons (Prod.mk (nat_lit 102) (tO #[])) (
List.cons (Prod.mk (nat_lit 103) (dO #[dE P "__module__" 305 (.str "papervault.errors" 187),dE P "__firstlineno__" 309 (.int 17 308),dE P "__static_attributes__" 310 (.ref 102),dE P "__doc__" 311 .none] 2)) (
List.cons (Prod.mk (nat_lit 104) (.mk (.type "type") none (.cls (ClassData.mk "NoState" [.ref 24] [.ref 104,.ref 24,.type "ValueError",.type "Exception",.type "BaseException",.type "object"] 103 "NoState" true [] [] false none false)) #[some (.ref 95),none,some (.str "NoState" 298),some (.str "NoState" 306),some (.builtin "ValueError.__new__"),some (.bool true)])) (
List.cons (Prod.mk (nat_lit 107) (tO #[])) (
List.cons (Prod.mk (nat_lit 109) (tO #[.str "thing" 319,.str "folded" 320,.str "code" 321])) (
List.cons (Prod.mk (nat_lit 110) (tO #[])) (
List.cons (Prod.mk (nat_lit 112) (cO "seal" 316 "seal" 317 318 20 1 0 0 3 107 true 108 .none (.ref 109) (.ref 110) (.ref 111) 322 20 323)) (
List.cons (Prod.mk (nat_lit 113) (f1 "seal" "seal" (Pv.top 9) "papervault.seals" 314 112)) (
List.cons (Prod.mk (nat_lit 114) (tO #[])) (
List.cons (Prod.mk (nat_lit 117) (cO "codes" 325 "codes" 326 327 25 1 0 0 3 114 true 115 .none .none .none (.ref 116) 328 25 329)) (
List.cons (Prod.mk (nat_lit 118) (f1 "codes" "codes" (Pv.top 10) "papervault.seals" 314 117)) (
List.cons (Prod.mk (nat_lit 119) (tO #[])) (
List.cons (Prod.mk (nat_lit 121) (tO #[.str "signs" 334,.str "number" 335,.str "sign" 336])) (
List.cons (Prod.mk (nat_lit 122) (tO #[])) (
List.cons (Prod.mk (nat_lit 124) (cO "number_of" 331 "number_of" 332 333 38 1 0 0 3 119 true 120 .none (.ref 121) (.ref 122) (.ref 123) 337 38 338)) (
List.cons (Prod.mk (nat_lit 125) (f1 "number_of" "number_of" (Pv.top 11) "papervault.seals" 314 124)) (
List.cons (Prod.mk (nat_lit 126) (tO #[])) (
List.cons (Prod.mk (nat_lit 128) (tO #[.str "value" 353])) (
List.cons (Prod.mk (nat_lit 129) (tO #[])) (
List.cons (Prod.mk (nat_lit 131) (cO "is_whole" 350 "is_whole" 351 352 48 1 0 0 3 126 true 127 .none (.ref 128) (.ref 129) (.ref 130) 354 48 355)) (
List.cons (Prod.mk (nat_lit 132) (f1 "is_whole" "is_whole" (Pv.top 17) "papervault.things" 340 131)) (
List.cons (Prod.mk (nat_lit 133) (tO #[])) (
List.cons (Prod.mk (nat_lit 135) (tO #[.str "thing" 360])) (
List.cons (Prod.mk (nat_lit 136) (tO #[])) (
List.cons (Prod.mk (nat_lit 138) (cO "is_thing" 357 "is_thing" 358 359 50 1 0 0 3 133 true 134 .none (.ref 135) (.ref 136) (.ref 137) 361 50 362)) (
List.cons (Prod.mk (nat_lit 139) (f1 "is_thing" "is_thing" (Pv.top 18) "papervault.things" 340 138)) (
List.cons (Prod.mk (nat_lit 140) (tO #[])) (
List.cons (Prod.mk (nat_lit 142) (tO #[.str "thing" 367,.str "deep" 368])) (
List.cons (Prod.mk (nat_lit 143) (tO #[])) (
List.cons (Prod.mk (nat_lit 145) (cO "is_thing_within" 364 "is_thing_within" 365 366 52 2 0 0 3 140 true 141 .none (.ref 142) (.ref 143) (.ref 144) 369 52 370)) (
List.cons (Prod.mk (nat_lit 146) (f1 "is_thing_within" "is_thing_within" (Pv.top 19) "papervault.things" 340 145)) (
List.cons (Prod.mk (nat_lit 147) (tO #[])) (
List.cons (Prod.mk (nat_lit 149) (tO #[.str "parts" 375,.str "deep" 376,.str "part" 377])) (
List.cons (Prod.mk (nat_lit 150) (tO #[])) (
List.cons (Prod.mk (nat_lit 152) (cO "is_tuple_within" 372 "is_tuple_within" 373 374 60 2 0 0 3 147 true 148 .none (.ref 149) (.ref 150) (.ref 151) 378 60 379)) (
List.cons (Prod.mk (nat_lit 153) (f1 "is_tuple_within" "is_tuple_within" (Pv.top 20) "papervault.things" 340 152)) (
List.cons (Prod.mk (nat_lit 154) (tO #[])) (
List.cons (Prod.mk (nat_lit 156) (tO #[.str "text" 384,.str "sign" 385])) (
List.cons (Prod.mk (nat_lit 157) (tO #[])) (
List.cons (Prod.mk (nat_lit 159) (cO "has_signs_of_things" 381 "has_signs_of_things" 382 383 67 1 0 0 3 154 true 155 .none (.ref 156) (.ref 157) (.ref 158) 386 67 387)) (
List.cons (Prod.mk (nat_lit 160) (f1 "has_signs_of_things" "has_signs_of_things" (Pv.top 21) "papervault.things" 340 159)) (
List.cons (Prod.mk (nat_lit 161) (tO #[])) (
List.cons (Prod.mk (nat_lit 163) (tO #[.str "thing" 392])) (
List.cons (Prod.mk (nat_lit 164) (tO #[])) (
List.cons (Prod.mk (nat_lit 166) (cO "kind_of" 389 "kind_of" 390 391 72 1 0 0 3 161 true 162 .none (.ref 163) (.ref 164) (.ref 165) 393 72 394)) (
List.cons (Prod.mk (nat_lit 167) (f1 "kind_of" "kind_of" (Pv.top 22) "papervault.things" 340 166)) (
List.cons (Prod.mk (nat_lit 168) (tO #[])) (
List.cons (Prod.mk (nat_lit 170) (tO #[.str "one" 399,.str "other" 400,.str "kind" 401])) (
List.cons (Prod.mk (nat_lit 171) (tO #[])) (
List.cons (Prod.mk (nat_lit 173) (cO "ahead" 396 "ahead" 397 398 80 2 0 0 3 168 true 169 .none (.ref 170) (.ref 171) (.ref 172) 402 80 403)) (
List.cons (Prod.mk (nat_lit 174) (f1 "ahead" "ahead" (Pv.top 23) "papervault.things" 340 173)) (
List.cons (Prod.mk (nat_lit 175) (tO #[])) (
List.cons (Prod.mk (nat_lit 177) (tO #[.str "one" 408,.str "other" 409,.str "mine" 410,.str "its" 411])) (
List.cons (Prod.mk (nat_lit 178) (tO #[])) (
List.cons (Prod.mk (nat_lit 180) (cO "is_tuple_ahead" 405 "is_tuple_ahead" 406 407 89 2 0 0 3 175 true 176 .none (.ref 177) (.ref 178) (.ref 179) 412 89 413)) (
List.cons (Prod.mk (nat_lit 181) (f1 "is_tuple_ahead" "is_tuple_ahead" (Pv.top 24) "papervault.things" 340 180)) (
List.cons (Prod.mk (nat_lit 189) (tO #[])) (
List.cons (Prod.mk (nat_lit 191) (tO #[.str "self" 432])) (
List.cons (Prod.mk (nat_lit 192) (tO #[])) (
List.cons (Prod.mk (nat_lit 194) (cO "__init__" 429 "Vault.__init__" 430 431 97 1 0 0 3 189 true 190 .none (.ref 191) (.ref 192) (.ref 193) 433 97 434)) (
List.cons (Prod.mk (nat_lit 195) (f1 "__init__" "Vault.__init__" (L2.inClass (Pv.top 26) 0) "papervault.vaults" 415 194)) (
List.cons (Prod.mk (nat_lit 196) (tO #[])) (
List.cons (Prod.mk (nat_lit 198) (tO #[.str "self" 439,.str "number" 440,.str "thing" 441])) (
List.cons (Prod.mk (nat_lit 199) (tO #[])) (
List.cons (Prod.mk (nat_lit 201) (cO "refuse_clash" 436 "Vault.refuse_clash" 437 438 100 3 0 0 3 196 true 197 .none (.ref 198) (.ref 199) (.ref 200) 442 100 443)) (
List.cons (Prod.mk (nat_lit 202) (f1 "refuse_clash" "Vault.refuse_clash" (L2.inClass (Pv.top 26) 1) "papervault.vaults" 415 201)) (
List.cons (Prod.mk (nat_lit 203) (tO #[])) (
List.cons (Prod.mk (nat_lit 205) (tO #[.str "self" 448,.str "thing" 449,.str "number" 450])) (
List.cons (Prod.mk (nat_lit 206) (tO #[])) (
List.cons (Prod.mk (nat_lit 208) (cO "lay" 445 "Vault.lay" 446 447 104 2 0 0 3 203 true 204 .none (.ref 205) (.ref 206) (.ref 207) 451 104 452)) (
List.cons (Prod.mk (nat_lit 209) (f1 "lay" "Vault.lay" (L2.inClass (Pv.top 26) 2) "papervault.vaults" 415 208)) (
List.cons (Prod.mk (nat_lit 210) (tO #[])) (
List.cons (Prod.mk (nat_lit 212) (tO #[.str "self" 457,.str "number" 458])) (
List.cons (Prod.mk (nat_lit 213) (tO #[])) (
List.cons (Prod.mk (nat_lit 215) (cO "thing" 454 "Vault.thing" 455 456 110 2 0 0 3 210 true 211 .none (.ref 212) (.ref 213) (.ref 214) 459 110 460)) (
List.cons (Prod.mk (nat_lit 216) (f1 "thing" "Vault.thing" (L2.inClass (Pv.top 26) 3) "papervault.vaults" 415 215)) (
List.cons (Prod.mk (nat_lit 217) (tO #[.str "laid" 462])) (
List.cons (Prod.mk (nat_lit 218) (dO #[dE P "__module__" 424 (.str "papervault.vaults" 415),dE P "__firstlineno__" 428 (.int 95 427),dE P "__init__" 435 (.ref 195),dE P "refuse_clash" 444 (.ref 202),dE P "lay" 453 (.ref 209),dE P "thing" 461 (.ref 216),dE P "__static_attributes__" 463 (.ref 217),dE P "__dict__" 465 (.ref 220),dE P "__weakref__" 467 (.ref 221),dE P "__doc__" 468 .none] 4)) (
List.cons (Prod.mk (nat_lit 219) (.mk (.type "type") none (.cls (ClassData.mk "Vault" [.type "object"] [.ref 219,.type "object"] 218 "Vault" true [] [.ref 240] false none false)) #[none,none,some (.str "Vault" 417),some (.str "Vault" 425),some (.builtin "object.__new__"),some (.bool true)])) (
List.cons (Prod.mk (nat_lit 220) (.mk (.type "getset_descriptor") none (.fields #[.str "__dict__" 464,.ref 219,.builtin "function.__dict__",.builtin "function.__dict__#set"]) #[])) (
List.cons (Prod.mk (nat_lit 221) (.mk (.type "getset_descriptor") none (.fields #[.str "__weakref__" 466,.ref 219,.builtin "ExceptionGroup.__weakref__",.none]) #[])) (
List.cons (Prod.mk (nat_lit 224) (tO #[.ref 219])) (
List.cons (Prod.mk (nat_lit 231) (tO #[])) (
List.cons (Prod.mk (nat_lit 233) (tO #[.str "self" 486,.str "paper" 487,.str "thing" 488])) (
List.cons (Prod.mk (nat_lit 234) (tO #[])) (
List.cons (Prod.mk (nat_lit 236) (cO "__init__" 483 "Witness.__init__" 484 485 116 2 0 0 3 231 true 232 .none (.ref 233) (.ref 234) (.ref 235) 489 116 490)) (
List.cons (Prod.mk (nat_lit 237) (f1 "__init__" "Witness.__init__" (L2.inClass (Pv.top 27) 0) "papervault.vaults" 415 236)) (
List.cons (Prod.mk (nat_lit 238) (tO #[])) (
List.cons (Prod.mk (nat_lit 239) (dO #[dE P "__module__" 478 (.str "papervault.vaults" 415),dE P "__firstlineno__" 482 (.int 114 481),dE P "__init__" 491 (.ref 237),dE P "__static_attributes__" 492 (.ref 238),dE P "__doc__" 493 .none] 2)) (
List.cons (Prod.mk (nat_lit 240) (.mk (.type "type") none (.cls (ClassData.mk "Witness" [.ref 219] [.ref 240,.ref 219,.type "object"] 239 "Witness" true [] [] false none false)) #[some (.ref 224),none,some (.str "Witness" 471),some (.str "Witness" 479),some (.builtin "object.__new__"),some (.bool true)])) (
List.cons (Prod.mk (nat_lit 243) (tO #[])) (
List.cons (Prod.mk (nat_lit 245) (tO #[.str "root" 501,.str "ask" 502,.str "paper" 503])) (
List.cons (Prod.mk (nat_lit 246) (tO #[])) (
List.cons (Prod.mk (nat_lit 248) (cO "checked" 498 "checked" 499 500 123 3 0 0 3 243 true 244 .none (.ref 245) (.ref 246) (.ref 247) 504 123 505)) (
List.cons (Prod.mk (nat_lit 249) (f1 "checked" "checked" (Pv.top 29) "papervault.papers" 496 248)) (
List.cons (Prod.mk (nat_lit 250) (tO #[])) (
List.cons (Prod.mk (nat_lit 252) (tO #[.str "vault" 526,.str "root" 527,.str "count" 528,.str "node" 529])) (
List.cons (Prod.mk (nat_lit 253) (tO #[])) (
List.cons (Prod.mk (nat_lit 255) (cO "node_beneath" 523 "node_beneath" 524 525 133 3 0 0 3 250 true 251 .none (.ref 252) (.ref 253) (.ref 254) 530 133 531)) (
List.cons (Prod.mk (nat_lit 256) (f1 "node_beneath" "node_beneath" (Pv.top 38) "papervault.nodes" 507 255)) (
List.cons (Prod.mk (nat_lit 257) (tO #[])) (
List.cons (Prod.mk (nat_lit 259) (tO #[.str "thing" 536])) (
List.cons (Prod.mk (nat_lit 260) (tO #[])) (
List.cons (Prod.mk (nat_lit 262) (cO "is_node" 533 "is_node" 534 535 138 1 0 0 3 257 true 258 .none (.ref 259) (.ref 260) (.ref 261) 537 138 538)) (
List.cons (Prod.mk (nat_lit 263) (f1 "is_node" "is_node" (Pv.top 39) "papervault.nodes" 507 262)) (
List.cons (Prod.mk (nat_lit 264) (tO #[])) (
List.cons (Prod.mk (nat_lit 266) (tO #[.str "thing" 543])) (
List.cons (Prod.mk (nat_lit 267) (tO #[])) (
List.cons (Prod.mk (nat_lit 269) (cO "is_root" 540 "is_root" 541 542 146 1 0 0 3 264 true 265 .none (.ref 266) (.ref 267) (.ref 268) 544 146 545)) (
List.cons (Prod.mk (nat_lit 270) (f1 "is_root" "is_root" (Pv.top 40) "papervault.nodes" 507 269)) (
List.cons (Prod.mk (nat_lit 271) (tO #[])) (
List.cons (Prod.mk (nat_lit 273) (tO #[.str "vault" 550,.str "root" 551])) (
List.cons (Prod.mk (nat_lit 274) (tO #[])) (
List.cons (Prod.mk (nat_lit 276) (cO "size" 547 "size" 548 549 148 2 0 0 3 271 true 272 .none (.ref 273) (.ref 274) (.ref 275) 552 148 553)) (
List.cons (Prod.mk (nat_lit 277) (f1 "size" "size" (Pv.top 41) "papervault.nodes" 507 276)) (
List.cons (Prod.mk (nat_lit 278) (tO #[])) (
List.cons (Prod.mk (nat_lit 280) (tO #[.str "vault" 558,.str "root" 559,.str "count" 560])) (
List.cons (Prod.mk (nat_lit 281) (tO #[])) (
List.cons (Prod.mk (nat_lit 283) (cO "size_beneath" 555 "size_beneath" 556 557 150 3 0 0 3 278 true 279 .none (.ref 280) (.ref 281) (.ref 282) 561 150 562)) (
List.cons (Prod.mk (nat_lit 284) (f1 "size_beneath" "size_beneath" (Pv.top 42) "papervault.nodes" 507 283)) (
List.cons (Prod.mk (nat_lit 285) (tO #[])) (
List.cons (Prod.mk (nat_lit 287) (tO #[.str "key" 567])) (
List.cons (Prod.mk (nat_lit 288) (tO #[])) (
List.cons (Prod.mk (nat_lit 290) (cO "rank" 564 "rank" 565 566 154 1 0 0 3 285 true 286 .none (.ref 287) (.ref 288) (.ref 289) 568 154 569)) (
List.cons (Prod.mk (nat_lit 291) (f1 "rank" "rank" (Pv.top 43) "papervault.nodes" 507 290)) (
List.cons (Prod.mk (nat_lit 292) (tO #[])) (
List.cons (Prod.mk (nat_lit 294) (tO #[.str "key" 574,.str "other" 575,.str "mine" 576,.str "its" 577])) (
List.cons (Prod.mk (nat_lit 295) (tO #[])) (
List.cons (Prod.mk (nat_lit 297) (cO "above" 571 "above" 572 573 156 2 0 0 3 292 true 293 .none (.ref 294) (.ref 295) (.ref 296) 578 156 579)) (
List.cons (Prod.mk (nat_lit 298) (f1 "above" "above" (Pv.top 44) "papervault.nodes" 507 297)) (
List.cons (Prod.mk (nat_lit 299) (tO #[])) (
List.cons (Prod.mk (nat_lit 301) (tO #[.str "node" 586,.str "key" 587])) (
List.cons (Prod.mk (nat_lit 302) (tO #[])) (
List.cons (Prod.mk (nat_lit 304) (cO "side_of" 583 "side_of" 584 585 163 2 0 0 3 299 true 300 .none (.ref 301) (.ref 302) (.ref 303) 588 163 589)) (
List.cons (Prod.mk (nat_lit 305) (f1 "side_of" "side_of" (Pv.top 46) "papervault.trees" 581 304)) (
List.cons (Prod.mk (nat_lit 306) (tO #[])) (
List.cons (Prod.mk (nat_lit 308) (tO #[.str "vault" 594,.str "root" 595,.str "key" 596,.str "way" 597,.str "count" 598,.str "node" 599])) (
List.cons (Prod.mk (nat_lit 309) (tO #[])) (
List.cons (Prod.mk (nat_lit 311) (cO "way_to" 591 "way_to" 592 593 165 3 0 0 3 306 true 307 .none (.ref 308) (.ref 309) (.ref 310) 600 165 601)) (
List.cons (Prod.mk (nat_lit 312) (f1 "way_to" "way_to" (Pv.top 47) "papervault.trees" 581 311)) (
List.cons (Prod.mk (nat_lit 313) (tO #[])) (
List.cons (Prod.mk (nat_lit 315) (tO #[.str "way" 606,.str "key" 607])) (
List.cons (Prod.mk (nat_lit 316) (tO #[])) (
List.cons (Prod.mk (nat_lit 318) (cO "ends_at" 603 "ends_at" 604 605 176 2 0 0 3 313 true 314 .none (.ref 315) (.ref 316) (.ref 317) 608 176 609)) (
List.cons (Prod.mk (nat_lit 319) (f1 "ends_at" "ends_at" (Pv.top 48) "papervault.trees" 581 318)) (
List.cons (Prod.mk (nat_lit 320) (tO #[])) (
List.cons (Prod.mk (nat_lit 322) (tO #[.str "vault" 614,.str "root" 615,.str "key" 616,.str "way" 617])) (
List.cons (Prod.mk (nat_lit 323) (tO #[])) (
List.cons (Prod.mk (nat_lit 325) (cO "found" 611 "found" 612 613 178 3 0 0 3 320 true 321 .none (.ref 322) (.ref 323) (.ref 324) 618 178 619)) (
List.cons (Prod.mk (nat_lit 326) (f1 "found" "found" (Pv.top 49) "papervault.trees" 581 325)) (
List.cons (Prod.mk (nat_lit 327) (tO #[])) (
List.cons (Prod.mk (nat_lit 329) (tO #[.str "low" 624,.str "high" 625])) (
List.cons (Prod.mk (nat_lit 330) (tO #[])) (
List.cons (Prod.mk (nat_lit 332) (cO "is_empty" 621 "is_empty" 622 623 181 2 0 0 3 327 true 328 .none (.ref 329) (.ref 330) (.ref 331) 626 181 627)) (
List.cons (Prod.mk (nat_lit 333) (f1 "is_empty" "is_empty" (Pv.top 50) "papervault.trees" 581 332)) (
List.cons (Prod.mk (nat_lit 334) (tO #[])) (
List.cons (Prod.mk (nat_lit 336) (tO #[.str "node" 632,.str "low" 633])) (
List.cons (Prod.mk (nat_lit 337) (tO #[])) (
List.cons (Prod.mk (nat_lit 339) (cO "goes_left" 629 "goes_left" 630 631 183 2 0 0 3 334 true 335 .none (.ref 336) (.ref 337) (.ref 338) 634 183 635)) (
List.cons (Prod.mk (nat_lit 340) (f1 "goes_left" "goes_left" (Pv.top 51) "papervault.trees" 581 339)) (
List.cons (Prod.mk (nat_lit 341) (tO #[])) (
List.cons (Prod.mk (nat_lit 343) (tO #[.str "node" 640,.str "high" 641])) (
List.cons (Prod.mk (nat_lit 344) (tO #[])) (
List.cons (Prod.mk (nat_lit 346) (cO "goes_right" 637 "goes_right" 638 639 185 2 0 0 3 341 true 342 .none (.ref 343) (.ref 344) (.ref 345) 642 185 643)) (
List.cons (Prod.mk (nat_lit 347) (f1 "goes_right" "goes_right" (Pv.top 52) "papervault.trees" 581 346)) (
List.cons (Prod.mk (nat_lit 348) (tO #[])) (
List.cons (Prod.mk (nat_lit 350) (tO #[.str "vault" 648,.str "node" 649,.str "left" 650,.str "right" 651])) (
List.cons (Prod.mk (nat_lit 351) (tO #[])) (
List.cons (Prod.mk (nat_lit 353) (cO "refuse_sum" 645 "refuse_sum" 646 647 187 2 0 0 3 348 true 349 .none (.ref 350) (.ref 351) (.ref 352) 652 187 653)) (
List.cons (Prod.mk (nat_lit 354) (f1 "refuse_sum" "refuse_sum" (Pv.top 53) "papervault.trees" 581 353)) (
List.cons (Prod.mk (nat_lit 355) (tO #[])) (
List.cons (Prod.mk (nat_lit 357) (tO #[.str "vault" 658,.str "root" 659,.str "low" 660,.str "high" 661,.str "pairs" 662,.str "begun" 663,.str "count" 664,.str "node" 665])) (
List.cons (Prod.mk (nat_lit 358) (tO #[])) (
List.cons (Prod.mk (nat_lit 360) (cO "stretch" 655 "stretch" 656 657 192 4 0 0 3 355 true 356 .none (.ref 357) (.ref 358) (.ref 359) 666 192 667)) (
List.cons (Prod.mk (nat_lit 361) (f1 "stretch" "stretch" (Pv.top 54) "papervault.trees" 581 360)) (
List.cons (Prod.mk (nat_lit 362) (tO #[])) (
List.cons (Prod.mk (nat_lit 364) (tO #[.str "vault" 672,.str "root" 673,.str "key" 674,.str "many" 675,.str "node" 676])) (
List.cons (Prod.mk (nat_lit 365) (tO #[])) (
List.cons (Prod.mk (nat_lit 367) (cO "count_ahead" 669 "count_ahead" 670 671 213 3 0 0 3 362 true 363 .none (.ref 364) (.ref 365) (.ref 366) 677 213 678)) (
List.cons (Prod.mk (nat_lit 368) (f1 "count_ahead" "count_ahead" (Pv.top 55) "papervault.trees" 581 367)) (
List.cons (Prod.mk (nat_lit 369) (tO #[])) (
List.cons (Prod.mk (nat_lit 371) (tO #[.str "vault" 683,.str "root" 684,.str "low" 685,.str "high" 686,.str "many" 687])) (
List.cons (Prod.mk (nat_lit 372) (tO #[])) (
List.cons (Prod.mk (nat_lit 374) (cO "counted" 680 "counted" 681 682 222 4 0 0 3 369 true 370 .none (.ref 371) (.ref 372) (.ref 373) 688 222 689)) (
List.cons (Prod.mk (nat_lit 375) (f1 "counted" "counted" (Pv.top 56) "papervault.trees" 581 374)) (
List.cons (Prod.mk (nat_lit 376) (tO #[])) (
List.cons (Prod.mk (nat_lit 378) (tO #[.str "vault" 694,.str "root" 695,.str "number" 696,.str "count" 697,.str "node" 698,.str "left" 699])) (
List.cons (Prod.mk (nat_lit 379) (tO #[])) (
List.cons (Prod.mk (nat_lit 381) (cO "nth" 691 "nth" 692 693 229 3 0 0 3 376 true 377 .none (.ref 378) (.ref 379) (.ref 380) 700 229 701)) (
List.cons (Prod.mk (nat_lit 382) (f1 "nth" "nth" (Pv.top 57) "papervault.trees" 581 381)) (
List.cons (Prod.mk (nat_lit 383) (tO #[])) (
List.cons (Prod.mk (nat_lit 385) (tO #[.str "node" 706,.str "side" 707,.str "root" 708,.str "count" 709])) (
List.cons (Prod.mk (nat_lit 386) (tO #[])) (
List.cons (Prod.mk (nat_lit 388) (cO "with_tree" 703 "with_tree" 704 705 247 4 0 0 3 383 true 384 .none (.ref 385) (.ref 386) (.ref 387) 710 247 711)) (
List.cons (Prod.mk (nat_lit 389) (f1 "with_tree" "with_tree" (Pv.top 58) "papervault.trees" 581 388)) (
List.cons (Prod.mk (nat_lit 390) (tO #[])) (
List.cons (Prod.mk (nat_lit 392) (tO #[.str "vault" 716,.str "way" 717,.str "key" 718,.str "root" 719,.str "more" 720,.str "node" 721])) (
List.cons (Prod.mk (nat_lit 393) (tO #[])) (
List.cons (Prod.mk (nat_lit 395) (cO "hung" 713 "hung" 714 715 251 5 0 0 3 390 true 391 .none (.ref 392) (.ref 393) (.ref 394) 722 251 723)) (
List.cons (Prod.mk (nat_lit 396) (f1 "hung" "hung" (Pv.top 59) "papervault.trees" 581 395)) (
List.cons (Prod.mk (nat_lit 397) (tO #[])) (
List.cons (Prod.mk (nat_lit 399) (tO #[.str "vault" 728,.str "way" 729,.str "key" 730,.str "root" 731,.str "count" 732,.str "left" 733,.str "left_count" 734,.str "right" 735,.str "right_count" 736,.str "node" 737])) (
List.cons (Prod.mk (nat_lit 400) (tO #[])) (
List.cons (Prod.mk (nat_lit 402) (cO "parted" 725 "parted" 726 727 255 5 0 0 3 397 true 398 .none (.ref 399) (.ref 400) (.ref 401) 738 255 739)) (
List.cons (Prod.mk (nat_lit 403) (f1 "parted" "parted" (Pv.top 60) "papervault.trees" 581 402)) (
List.cons (Prod.mk (nat_lit 404) (tO #[])) (
List.cons (Prod.mk (nat_lit 406) (tO #[.str "way" 744,.str "key" 745,.str "number" 746,.str "node" 747])) (
List.cons (Prod.mk (nat_lit 407) (tO #[])) (
List.cons (Prod.mk (nat_lit 409) (cO "place_in" 741 "place_in" 742 743 268 2 0 0 3 404 true 405 .none (.ref 406) (.ref 407) (.ref 408) 748 268 749)) (
List.cons (Prod.mk (nat_lit 410) (f1 "place_in" "place_in" (Pv.top 61) "papervault.trees" 581 409)) (
List.cons (Prod.mk (nat_lit 411) (tO #[])) (
List.cons (Prod.mk (nat_lit 413) (tO #[.str "vault" 754,.str "root" 755,.str "key" 756,.str "worth" 757,.str "way" 758,.str "own" 759,.str "new" 760,.str "place" 761,.str "trees" 762,.str "count" 763])) (
List.cons (Prod.mk (nat_lit 414) (tO #[])) (
List.cons (Prod.mk (nat_lit 416) (cO "put" 751 "put" 752 753 273 4 0 0 3 411 true 412 .none (.ref 413) (.ref 414) (.ref 415) 764 273 765)) (
List.cons (Prod.mk (nat_lit 417) (f1 "put" "put" (Pv.top 62) "papervault.trees" 581 416)) (
List.cons (Prod.mk (nat_lit 418) (tO #[])) (
List.cons (Prod.mk (nat_lit 420) (tO #[.str "vault" 770,.str "root" 771,.str "key" 772,.str "way" 773,.str "own" 774])) (
List.cons (Prod.mk (nat_lit 421) (tO #[])) (
List.cons (Prod.mk (nat_lit 423) (cO "cut" 767 "cut" 768 769 284 3 0 0 3 418 true 419 .none (.ref 420) (.ref 421) (.ref 422) 775 284 776)) (
List.cons (Prod.mk (nat_lit 424) (f1 "cut" "cut" (Pv.top 63) "papervault.trees" 581 423)) (
List.cons (Prod.mk (nat_lit 425) (tO #[])) (
List.cons (Prod.mk (nat_lit 427) (tO #[.str "vault" 781,.str "left" 782,.str "right" 783,.str "count" 784,.str "left_count" 785,.str "right_count" 786,.str "down" 787,.str "one" 788,.str "other" 789,.str "both" 790,.str "root" 791,.str "step" 792])) (
List.cons (Prod.mk (nat_lit 428) (tO #[])) (
List.cons (Prod.mk (nat_lit 430) (cO "joined" 778 "joined" 779 780 290 4 0 0 3 425 true 426 .none (.ref 427) (.ref 428) (.ref 429) 793 290 794)) (
List.cons (Prod.mk (nat_lit 431) (f1 "joined" "joined" (Pv.top 64) "papervault.trees" 581 430)) (
List.cons (Prod.mk (nat_lit 439) (tO #[])) (
List.cons (Prod.mk (nat_lit 441) (tO #[.str "self" 813,.str "vault" 814,.str "root" 815])) (
List.cons (Prod.mk (nat_lit 442) (tO #[])) (
List.cons (Prod.mk (nat_lit 444) (cO "answer" 810 "Ask.answer" 811 812 313 3 0 0 3 439 true 440 .none (.ref 441) (.ref 442) (.ref 443) 816 313 817)) (
List.cons (Prod.mk (nat_lit 445) (f1 "answer" "Ask.answer" (L2.inClass (Pv.top 66) 0) "papervault.asks" 796 444)) (
List.cons (Prod.mk (nat_lit 446) (tO #[])) (
List.cons (Prod.mk (nat_lit 447) (dO #[dE P "__module__" 805 (.str "papervault.asks" 796),dE P "__firstlineno__" 809 (.int 311 808),dE P "answer" 818 (.ref 445),dE P "__static_attributes__" 819 (.ref 446),dE P "__dict__" 821 (.ref 449),dE P "__weakref__" 823 (.ref 450),dE P "__doc__" 824 .none] 4)) (
List.cons (Prod.mk (nat_lit 448) (.mk (.type "type") none (.cls (ClassData.mk "Ask" [.type "object"] [.ref 448,.type "object"] 447 "Ask" true [] [.ref 476,.ref 502,.ref 528,.ref 554,.ref 580,.ref 606] false none false)) #[none,none,some (.str "Ask" 798),some (.str "Ask" 806),some (.builtin "object.__new__"),some (.bool true)])) (
List.cons (Prod.mk (nat_lit 449) (.mk (.type "getset_descriptor") none (.fields #[.str "__dict__" 820,.ref 448,.builtin "function.__dict__",.builtin "function.__dict__#set"]) #[])) (
List.cons (Prod.mk (nat_lit 450) (.mk (.type "getset_descriptor") none (.fields #[.str "__weakref__" 822,.ref 448,.builtin "ExceptionGroup.__weakref__",.none]) #[])) (
List.cons (Prod.mk (nat_lit 453) (tO #[.ref 448])) (
List.cons (Prod.mk (nat_lit 460) (tO #[])) (
List.cons (Prod.mk (nat_lit 462) (tO #[.str "self" 842,.str "key" 843])) (
List.cons (Prod.mk (nat_lit 463) (tO #[])) (
List.cons (Prod.mk (nat_lit 465) (cO "__init__" 839 "Find.__init__" 840 841 317 2 0 0 3 460 true 461 .none (.ref 462) (.ref 463) (.ref 464) 844 317 845)) (
List.cons (Prod.mk (nat_lit 466) (f1 "__init__" "Find.__init__" (L2.inClass (Pv.top 67) 0) "papervault.asks" 796 465)) (
List.cons (Prod.mk (nat_lit 467) (tO #[])) (
List.cons (Prod.mk (nat_lit 469) (tO #[.str "self" 850,.str "vault" 851,.str "root" 852])) (
List.cons (Prod.mk (nat_lit 470) (tO #[])) (
List.cons (Prod.mk (nat_lit 472) (cO "answer" 847 "Find.answer" 848 849 320 3 0 0 3 467 true 468 .none (.ref 469) (.ref 470) (.ref 471) 853 320 854)) (
List.cons (Prod.mk (nat_lit 473) (f1 "answer" "Find.answer" (L2.inClass (Pv.top 67) 1) "papervault.asks" 796 472)) (
List.cons (Prod.mk (nat_lit 474) (tO #[.str "key" 856])) (
List.cons (Prod.mk (nat_lit 475) (dO #[dE P "__module__" 834 (.str "papervault.asks" 796),dE P "__firstlineno__" 838 (.int 315 837),dE P "__init__" 846 (.ref 466),dE P "answer" 855 (.ref 473),dE P "__static_attributes__" 857 (.ref 474),dE P "__doc__" 858 .none] 2)) (
List.cons (Prod.mk (nat_lit 476) (.mk (.type "type") none (.cls (ClassData.mk "Find" [.ref 448] [.ref 476,.ref 448,.type "object"] 475 "Find" true [] [] false none false)) #[some (.ref 453),none,some (.str "Find" 827),some (.str "Find" 835),some (.builtin "object.__new__"),some (.bool true)])) (
List.cons (Prod.mk (nat_lit 479) (tO #[.ref 448])) (
List.cons (Prod.mk (nat_lit 486) (tO #[])) (
List.cons (Prod.mk (nat_lit 488) (tO #[.str "self" 876,.str "low" 877,.str "high" 878])) (
List.cons (Prod.mk (nat_lit 489) (tO #[])) (
List.cons (Prod.mk (nat_lit 491) (cO "__init__" 873 "Stretch.__init__" 874 875 324 3 0 0 3 486 true 487 .none (.ref 488) (.ref 489) (.ref 490) 879 324 880)) (
List.cons (Prod.mk (nat_lit 492) (f1 "__init__" "Stretch.__init__" (L2.inClass (Pv.top 68) 0) "papervault.asks" 796 491)) (
List.cons (Prod.mk (nat_lit 493) (tO #[])) (
List.cons (Prod.mk (nat_lit 495) (tO #[.str "self" 885,.str "vault" 886,.str "root" 887])) (
List.cons (Prod.mk (nat_lit 496) (tO #[])) (
List.cons (Prod.mk (nat_lit 498) (cO "answer" 882 "Stretch.answer" 883 884 328 3 0 0 3 493 true 494 .none (.ref 495) (.ref 496) (.ref 497) 888 328 889)) (
List.cons (Prod.mk (nat_lit 499) (f1 "answer" "Stretch.answer" (L2.inClass (Pv.top 68) 1) "papervault.asks" 796 498)) (
List.cons (Prod.mk (nat_lit 500) (tO #[.str "high" 891,.str "low" 892])) (
List.cons (Prod.mk (nat_lit 501) (dO #[dE P "__module__" 868 (.str "papervault.asks" 796),dE P "__firstlineno__" 872 (.int 322 871),dE P "__init__" 881 (.ref 492),dE P "answer" 890 (.ref 499),dE P "__static_attributes__" 893 (.ref 500),dE P "__doc__" 894 .none] 2)) (
List.cons (Prod.mk (nat_lit 502) (.mk (.type "type") none (.cls (ClassData.mk "Stretch" [.ref 448] [.ref 502,.ref 448,.type "object"] 501 "Stretch" true [] [] false none false)) #[some (.ref 479),none,some (.str "Stretch" 861),some (.str "Stretch" 869),some (.builtin "object.__new__"),some (.bool true)])) (
List.cons (Prod.mk (nat_lit 505) (tO #[.ref 448])) (
List.cons (Prod.mk (nat_lit 512) (tO #[])) (
List.cons (Prod.mk (nat_lit 514) (tO #[.str "self" 912,.str "low" 913,.str "high" 914])) (
List.cons (Prod.mk (nat_lit 515) (tO #[])) (
List.cons (Prod.mk (nat_lit 517) (cO "__init__" 909 "Count.__init__" 910 911 332 3 0 0 3 512 true 513 .none (.ref 514) (.ref 515) (.ref 516) 915 332 916)) (
List.cons (Prod.mk (nat_lit 518) (f1 "__init__" "Count.__init__" (L2.inClass (Pv.top 69) 0) "papervault.asks" 796 517)) (
List.cons (Prod.mk (nat_lit 519) (tO #[])) (
List.cons (Prod.mk (nat_lit 521) (tO #[.str "self" 921,.str "vault" 922,.str "root" 923])) (
List.cons (Prod.mk (nat_lit 522) (tO #[])) (
List.cons (Prod.mk (nat_lit 524) (cO "answer" 918 "Count.answer" 919 920 336 3 0 0 3 519 true 520 .none (.ref 521) (.ref 522) (.ref 523) 924 336 925)) (
List.cons (Prod.mk (nat_lit 525) (f1 "answer" "Count.answer" (L2.inClass (Pv.top 69) 1) "papervault.asks" 796 524)) (
List.cons (Prod.mk (nat_lit 526) (tO #[.str "high" 927,.str "low" 928])) (
List.cons (Prod.mk (nat_lit 527) (dO #[dE P "__module__" 904 (.str "papervault.asks" 796),dE P "__firstlineno__" 908 (.int 330 907),dE P "__init__" 917 (.ref 518),dE P "answer" 926 (.ref 525),dE P "__static_attributes__" 929 (.ref 526),dE P "__doc__" 930 .none] 2)) (
List.cons (Prod.mk (nat_lit 528) (.mk (.type "type") none (.cls (ClassData.mk "Count" [.ref 448] [.ref 528,.ref 448,.type "object"] 527 "Count" true [] [] false none false)) #[some (.ref 505),none,some (.str "Count" 897),some (.str "Count" 905),some (.builtin "object.__new__"),some (.bool true)])) (
List.cons (Prod.mk (nat_lit 531) (tO #[.ref 448])) (
List.cons (Prod.mk (nat_lit 538) (tO #[])) (
List.cons (Prod.mk (nat_lit 540) (tO #[.str "self" 948,.str "number" 949])) (
List.cons (Prod.mk (nat_lit 541) (tO #[])) (
List.cons (Prod.mk (nat_lit 543) (cO "__init__" 945 "Nth.__init__" 946 947 340 2 0 0 3 538 true 539 .none (.ref 540) (.ref 541) (.ref 542) 950 340 951)) (
List.cons (Prod.mk (nat_lit 544) (f1 "__init__" "Nth.__init__" (L2.inClass (Pv.top 70) 0) "papervault.asks" 796 543)) (
List.cons (Prod.mk (nat_lit 545) (tO #[])) (
List.cons (Prod.mk (nat_lit 547) (tO #[.str "self" 956,.str "vault" 957,.str "root" 958])) (
List.cons (Prod.mk (nat_lit 548) (tO #[])) (
List.cons (Prod.mk (nat_lit 550) (cO "answer" 953 "Nth.answer" 954 955 343 3 0 0 3 545 true 546 .none (.ref 547) (.ref 548) (.ref 549) 959 343 960)) (
List.cons (Prod.mk (nat_lit 551) (f1 "answer" "Nth.answer" (L2.inClass (Pv.top 70) 1) "papervault.asks" 796 550)) (
List.cons (Prod.mk (nat_lit 552) (tO #[.str "number" 962])) (
List.cons (Prod.mk (nat_lit 553) (dO #[dE P "__module__" 940 (.str "papervault.asks" 796),dE P "__firstlineno__" 944 (.int 338 943),dE P "__init__" 952 (.ref 544),dE P "answer" 961 (.ref 551),dE P "__static_attributes__" 963 (.ref 552),dE P "__doc__" 964 .none] 2)) (
List.cons (Prod.mk (nat_lit 554) (.mk (.type "type") none (.cls (ClassData.mk "Nth" [.ref 448] [.ref 554,.ref 448,.type "object"] 553 "Nth" true [] [] false none false)) #[some (.ref 531),none,some (.str "Nth" 933),some (.str "Nth" 941),some (.builtin "object.__new__"),some (.bool true)])) (
List.cons (Prod.mk (nat_lit 557) (tO #[.ref 448])) (
List.cons (Prod.mk (nat_lit 564) (tO #[])) (
List.cons (Prod.mk (nat_lit 566) (tO #[.str "self" 982,.str "key" 983,.str "worth" 984])) (
List.cons (Prod.mk (nat_lit 567) (tO #[])) (
List.cons (Prod.mk (nat_lit 569) (cO "__init__" 979 "Put.__init__" 980 981 347 3 0 0 3 564 true 565 .none (.ref 566) (.ref 567) (.ref 568) 985 347 986)) (
List.cons (Prod.mk (nat_lit 570) (f1 "__init__" "Put.__init__" (L2.inClass (Pv.top 71) 0) "papervault.asks" 796 569)) (
List.cons (Prod.mk (nat_lit 571) (tO #[])) (
List.cons (Prod.mk (nat_lit 573) (tO #[.str "self" 991,.str "vault" 992,.str "root" 993])) (
List.cons (Prod.mk (nat_lit 574) (tO #[])) (
List.cons (Prod.mk (nat_lit 576) (cO "answer" 988 "Put.answer" 989 990 351 3 0 0 3 571 true 572 .none (.ref 573) (.ref 574) (.ref 575) 994 351 995)) (
List.cons (Prod.mk (nat_lit 577) (f1 "answer" "Put.answer" (L2.inClass (Pv.top 71) 1) "papervault.asks" 796 576)) (
List.cons (Prod.mk (nat_lit 578) (tO #[.str "key" 997,.str "worth" 998])) (
List.cons (Prod.mk (nat_lit 579) (dO #[dE P "__module__" 974 (.str "papervault.asks" 796),dE P "__firstlineno__" 978 (.int 345 977),dE P "__init__" 987 (.ref 570),dE P "answer" 996 (.ref 577),dE P "__static_attributes__" 999 (.ref 578),dE P "__doc__" 1000 .none] 2)) (
List.cons (Prod.mk (nat_lit 580) (.mk (.type "type") none (.cls (ClassData.mk "Put" [.ref 448] [.ref 580,.ref 448,.type "object"] 579 "Put" true [] [] false none false)) #[some (.ref 557),none,some (.str "Put" 967),some (.str "Put" 975),some (.builtin "object.__new__"),some (.bool true)])) (
List.cons (Prod.mk (nat_lit 583) (tO #[.ref 448])) (
List.cons (Prod.mk (nat_lit 590) (tO #[])) (
List.cons (Prod.mk (nat_lit 592) (tO #[.str "self" 1018,.str "key" 1019])) (
List.cons (Prod.mk (nat_lit 593) (tO #[])) (
List.cons (Prod.mk (nat_lit 595) (cO "__init__" 1015 "Cut.__init__" 1016 1017 355 2 0 0 3 590 true 591 .none (.ref 592) (.ref 593) (.ref 594) 1020 355 1021)) (
List.cons (Prod.mk (nat_lit 596) (f1 "__init__" "Cut.__init__" (L2.inClass (Pv.top 72) 0) "papervault.asks" 796 595)) (
List.cons (Prod.mk (nat_lit 597) (tO #[])) (
List.cons (Prod.mk (nat_lit 599) (tO #[.str "self" 1026,.str "vault" 1027,.str "root" 1028])) (
List.cons (Prod.mk (nat_lit 600) (tO #[])) (
List.cons (Prod.mk (nat_lit 602) (cO "answer" 1023 "Cut.answer" 1024 1025 358 3 0 0 3 597 true 598 .none (.ref 599) (.ref 600) (.ref 601) 1029 358 1030)) (
List.cons (Prod.mk (nat_lit 603) (f1 "answer" "Cut.answer" (L2.inClass (Pv.top 72) 1) "papervault.asks" 796 602)) (
List.cons (Prod.mk (nat_lit 604) (tO #[.str "key" 1032])) (
List.cons (Prod.mk (nat_lit 605) (dO #[dE P "__module__" 1010 (.str "papervault.asks" 796),dE P "__firstlineno__" 1014 (.int 353 1013),dE P "__init__" 1022 (.ref 596),dE P "answer" 1031 (.ref 603),dE P "__static_attributes__" 1033 (.ref 604),dE P "__doc__" 1034 .none] 2)) (
List.cons (Prod.mk (nat_lit 606) (.mk (.type "type") none (.cls (ClassData.mk "Cut" [.ref 448] [.ref 606,.ref 448,.type "object"] 605 "Cut" true [] [] false none false)) #[some (.ref 583),none,some (.str "Cut" 1003),some (.str "Cut" 1011),some (.builtin "object.__new__"),some (.bool true)])) (
List.cons (Prod.mk (nat_lit 609) (tO #[])) (
List.cons (Prod.mk (nat_lit 611) (tO #[.str "cell" 1042,.str "low" 1043])) (
List.cons (Prod.mk (nat_lit 612) (tO #[])) (
List.cons (Prod.mk (nat_lit 614) (cO "_law_row" 1039 "_law_row" 1040 1041 361 1 0 0 3 609 true 610 .none (.ref 611) (.ref 612) (.ref 613) 1044 361 1045)) (
List.cons (Prod.mk (nat_lit 615) (f1 "_law_row" "_law_row" (Pv.top 74) "law_papervault_k43_bad_things" 1037 614)) (
List.cons (Prod.mk (nat_lit 616) (tO #[])) (
List.cons (Prod.mk (nat_lit 618) (tO #[.str "row" 1050,.str "many" 1051,.str "got" 1052])) (
List.cons (Prod.mk (nat_lit 619) (tO #[])) (
List.cons (Prod.mk (nat_lit 621) (cO "_law_take" 1047 "_law_take" 1048 1049 366 2 0 0 3 616 true 617 .none (.ref 618) (.ref 619) (.ref 620) 1053 366 1054)) (
List.cons (Prod.mk (nat_lit 622) (f1 "_law_take" "_law_take" (Pv.top 75) "law_papervault_k43_bad_things" 1037 621)) (
List.cons (Prod.mk (nat_lit 633) (tO #[])) (
List.cons (Prod.mk (nat_lit 635) (tO #[.str "node" 1071,.str "row" 1072,.str "key" 1073,.str "worth" 1074,.str "left" 1075,.str "right" 1076,.str "count" 1077,.str "odd" 1078,.str "kind" 1079])) (
List.cons (Prod.mk (nat_lit 636) (tO #[])) (
List.cons (Prod.mk (nat_lit 638) (cO "_law_spoilt" 1068 "_law_spoilt" 1069 1070 393 2 0 0 3 633 true 634 .none (.ref 635) (.ref 636) (.ref 637) 1080 393 1081)) (
List.cons (Prod.mk (nat_lit 639) (f1 "_law_spoilt" "_law_spoilt" (Pv.top 78) "law_papervault_k43_bad_things" 1037 638)) (
List.cons (Prod.mk (nat_lit 640) (tO #[])) (
List.cons (Prod.mk (nat_lit 642) (tO #[.str "root" 1086,.str "ask" 1087,.str "paper" 1088,.str "kinds" 1089,.str "clash" 1090,.str "e" 1091])) (
List.cons (Prod.mk (nat_lit 643) (tO #[])) (
List.cons (Prod.mk (nat_lit 645) (cO "_law_kinds" 1083 "_law_kinds" 1084 1085 412 3 0 0 3 640 true 641 .none (.ref 642) (.ref 643) (.ref 644) 1092 412 1093)) (
List.cons (Prod.mk (nat_lit 646) (f1 "_law_kinds" "_law_kinds" (Pv.top 79) "law_papervault_k43_bad_things" 1037 645)) (
List.cons (Prod.mk (nat_lit 647) (tO #[])) (
List.cons (Prod.mk (nat_lit 649) (tO #[.str "row" 1098,.str "key" 1099,.str "number" 1100,.str "low" 1101,.str "some" 1102])) (
List.cons (Prod.mk (nat_lit 650) (tO #[])) (
List.cons (Prod.mk (nat_lit 652) (cO "_law_ask" 1095 "_law_ask" 1096 1097 425 3 0 0 3 647 true 648 .none (.ref 649) (.ref 650) (.ref 651) 1103 425 1104)) (
List.cons (Prod.mk (nat_lit 653) (f1 "_law_ask" "_law_ask" (Pv.top 80) "law_papervault_k43_bad_things" 1037 652)) (
List.cons (Prod.mk (nat_lit 654) (tO #[])) (
List.cons (Prod.mk (nat_lit 656) (tO #[.str "row" 1109,.str "way" 1110,.str "keys" 1111,.str "top" 1112,.str "key" 1113,.str "is_left" 1114,.str "beneath" 1115,.str "bad" 1116,.str "sides" 1117,.str "node" 1118,.str "ask" 1119,.str "some" 1120])) (
List.cons (Prod.mk (nat_lit 657) (tO #[])) (
List.cons (Prod.mk (nat_lit 659) (cO "_law_is_bad" 1106 "_law_is_bad" 1107 1108 430 2 0 0 3 654 true 655 .none (.ref 656) (.ref 657) (.ref 658) 1121 430 1122)) (
List.cons (Prod.mk (nat_lit 660) (f1 "_law_is_bad" "_law_is_bad" (Pv.top 81) "law_papervault_k43_bad_things" 1037 659)) (
List.cons (Prod.mk (nat_lit 661) (tO #[])) (
List.cons (Prod.mk (nat_lit 663) (tO #[.str "row" 1127,.str "keys" 1128,.str "beneath" 1129,.str "sides" 1130,.str "node" 1131,.str "paper" 1132,.str "pairs" 1133])) (
List.cons (Prod.mk (nat_lit 664) (tO #[])) (
List.cons (Prod.mk (nat_lit 666) (cO "_law_is_good" 1124 "_law_is_good" 1125 1126 453 1 0 0 3 661 true 662 .none (.ref 663) (.ref 664) (.ref 665) 1134 453 1135)) (
List.cons (Prod.mk (nat_lit 667) (f1 "_law_is_good" "_law_is_good" (Pv.top 82) "law_papervault_k43_bad_things" 1037 666)) (
List.cons (Prod.mk (nat_lit 668) (tO #[])) (
List.cons (Prod.mk (nat_lit 670) (tO #[.str "row" 1140,.str "things" 1141,.str "k" 1142,.str "number" 1143,.str "top" 1144,.str "high" 1145,.str "ask" 1146])) (
List.cons (Prod.mk (nat_lit 671) (tO #[])) (
List.cons (Prod.mk (nat_lit 673) (cO "_law_ladder" 1137 "_law_ladder" 1138 1139 466 1 0 0 3 668 true 669 .none (.ref 670) (.ref 671) (.ref 672) 1147 466 1148)) (
List.cons (Prod.mk (nat_lit 674) (f1 "_law_ladder" "_law_ladder" (Pv.top 83) "law_papervault_k43_bad_things" 1037 673)) (
List.cons (Prod.mk (nat_lit 675) (tO #[])) (
List.cons (Prod.mk (nat_lit 677) (tO #[.str "script" 1153,.str "cell" 1154,.str "row" 1155])) (
List.cons (Prod.mk (nat_lit 678) (tO #[])) (
List.cons (Prod.mk (nat_lit 680) (cO "_law_held" 1150 "_law_held" 1151 1152 479 1 0 0 3 675 true 676 .none (.ref 677) (.ref 678) (.ref 679) 1156 479 1157)) (
List.cons (Prod.mk (nat_lit 681) (f1 "_law_held" "_law_held" (Pv.top 84) "law_papervault_k43_bad_things" 1037 680)) (
List.cons (Prod.mk (nat_lit 682) (tO #[])) (
List.cons (Prod.mk (nat_lit 684) (tO #[.str "script" 1162,.str "caught" 1163,.str "right" 1164,.str "e" 1165])) (
List.cons (Prod.mk (nat_lit 685) (tO #[])) (
List.cons (Prod.mk (nat_lit 687) (cO "law" 1159 "law" 1160 1161 488 1 0 0 3 682 true 683 .none (.ref 684) (.ref 685) (.ref 686) 1166 488 1167)) (
List.cons (Prod.mk (nat_lit 688) (f1 "law" "law" (Pv.top 85) "law_papervault_k43_bad_things" 1037 687)) (
List.nil))))))))))))))))))))))))))))))))))))))))))))))))))))))))))))))))))))))))))))))))))))))))))))))))))))))))))))))))))))))))))))))))))))))))))))))))))))))))))))))))))))))))))))))))))))))))))))))))))))))))))))))))))))))))))))))))))))))))))))))))))))))))))))))))))))))))))))))))))))))))))))))))))))))))))))))))))))))))))))))))))))))))))))))))))))))))))))))))))))))))))))))))))))))))))))))))))))))))))))))))))
def KA:List Addr:=List.cons (nat_lit 2) (List.cons (nat_lit 3) (List.cons (nat_lit 15) (List.cons (nat_lit 22) (List.cons (nat_lit 23) (List.cons (nat_lit 24) (List.cons (nat_lit 25) (List.cons (nat_lit 28) (List.cons (nat_lit 35) (List.cons (nat_lit 36) (List.cons (nat_lit 37) (List.cons (nat_lit 40) (List.cons (nat_lit 47) (List.cons (nat_lit 48) (List.cons (nat_lit 49) (List.cons (nat_lit 52) (List.cons (nat_lit 59) (List.cons (nat_lit 60) (List.cons (nat_lit 61) (List.cons (nat_lit 64) (List.cons (nat_lit 71) (List.cons (nat_lit 73) (List.cons (nat_lit 74) (List.cons (nat_lit 76) (List.cons (nat_lit 77) (List.cons (nat_lit 78) (List.cons (nat_lit 79) (List.cons (nat_lit 80) (List.cons (nat_lit 83) (List.cons (nat_lit 90) (List.cons (nat_lit 91) (List.cons (nat_lit 92) (List.cons (nat_lit 95) (List.cons (nat_lit 102) (List.cons (nat_lit 103) (List.cons (nat_lit 104) (List.cons (nat_lit 107) (List.cons (nat_lit 109) (List.cons (nat_lit 110) (List.cons (nat_lit 112) (List.cons (nat_lit 113) (List.cons (nat_lit 114) (List.cons (nat_lit 117) (List.cons (nat_lit 118) (List.cons (nat_lit 119) (List.cons (nat_lit 121) (List.cons (nat_lit 122) (List.cons (nat_lit 124) (List.cons (nat_lit 125) (List.cons (nat_lit 126) (List.cons (nat_lit 128) (List.cons (nat_lit 129) (List.cons (nat_lit 131) (List.cons (nat_lit 132) (List.cons (nat_lit 133) (List.cons (nat_lit 135) (List.cons (nat_lit 136) (List.cons (nat_lit 138) (List.cons (nat_lit 139) (List.cons (nat_lit 140) (List.cons (nat_lit 142) (List.cons (nat_lit 143) (List.cons (nat_lit 145) (List.cons (nat_lit 146) (List.cons (nat_lit 147) (List.cons (nat_lit 149) (List.cons (nat_lit 150) (List.cons (nat_lit 152) (List.cons (nat_lit 153) (List.cons (nat_lit 154) (List.cons (nat_lit 156) (List.cons (nat_lit 157) (List.cons (nat_lit 159) (List.cons (nat_lit 160) (List.cons (nat_lit 161) (List.cons (nat_lit 163) (List.cons (nat_lit 164) (List.cons (nat_lit 166) (List.cons (nat_lit 167) (List.cons (nat_lit 168) (List.cons (nat_lit 170) (List.cons (nat_lit 171) (List.cons (nat_lit 173) (List.cons (nat_lit 174) (List.cons (nat_lit 175) (List.cons (nat_lit 177) (List.cons (nat_lit 178) (List.cons (nat_lit 180) (List.cons (nat_lit 181) (List.cons (nat_lit 189) (List.cons (nat_lit 191) (List.cons (nat_lit 192) (List.cons (nat_lit 194) (List.cons (nat_lit 195) (List.cons (nat_lit 196) (List.cons (nat_lit 198) (List.cons (nat_lit 199) (List.cons (nat_lit 201) (List.cons (nat_lit 202) (List.cons (nat_lit 203) (List.cons (nat_lit 205) (List.cons (nat_lit 206) (List.cons (nat_lit 208) (List.cons (nat_lit 209) (List.cons (nat_lit 210) (List.cons (nat_lit 212) (List.cons (nat_lit 213) (List.cons (nat_lit 215) (List.cons (nat_lit 216) (List.cons (nat_lit 217) (List.cons (nat_lit 218) (List.cons (nat_lit 219) (List.cons (nat_lit 220) (List.cons (nat_lit 221) (List.cons (nat_lit 224) (List.cons (nat_lit 231) (List.cons (nat_lit 233) (List.cons (nat_lit 234) (List.cons (nat_lit 236) (List.cons (nat_lit 237) (List.cons (nat_lit 238) (List.cons (nat_lit 239) (List.cons (nat_lit 240) (List.cons (nat_lit 243) (List.cons (nat_lit 245) (List.cons (nat_lit 246) (List.cons (nat_lit 248) (List.cons (nat_lit 249) (List.cons (nat_lit 250) (List.cons (nat_lit 252) (List.cons (nat_lit 253) (List.cons (nat_lit 255) (List.cons (nat_lit 256) (List.cons (nat_lit 257) (List.cons (nat_lit 259) (List.cons (nat_lit 260) (List.cons (nat_lit 262) (List.cons (nat_lit 263) (List.cons (nat_lit 264) (List.cons (nat_lit 266) (List.cons (nat_lit 267) (List.cons (nat_lit 269) (List.cons (nat_lit 270) (List.cons (nat_lit 271) (List.cons (nat_lit 273) (List.cons (nat_lit 274) (List.cons (nat_lit 276) (List.cons (nat_lit 277) (List.cons (nat_lit 278) (List.cons (nat_lit 280) (List.cons (nat_lit 281) (List.cons (nat_lit 283) (List.cons (nat_lit 284) (List.cons (nat_lit 285) (List.cons (nat_lit 287) (List.cons (nat_lit 288) (List.cons (nat_lit 290) (List.cons (nat_lit 291) (List.cons (nat_lit 292) (List.cons (nat_lit 294) (List.cons (nat_lit 295) (List.cons (nat_lit 297) (List.cons (nat_lit 298) (List.cons (nat_lit 299) (List.cons (nat_lit 301) (List.cons (nat_lit 302) (List.cons (nat_lit 304) (List.cons (nat_lit 305) (List.cons (nat_lit 306) (List.cons (nat_lit 308) (List.cons (nat_lit 309) (List.cons (nat_lit 311) (List.cons (nat_lit 312) (List.cons (nat_lit 313) (List.cons (nat_lit 315) (List.cons (nat_lit 316) (List.cons (nat_lit 318) (List.cons (nat_lit 319) (List.cons (nat_lit 320) (List.cons (nat_lit 322) (List.cons (nat_lit 323) (List.cons (nat_lit 325) (List.cons (nat_lit 326) (List.cons (nat_lit 327) (List.cons (nat_lit 329) (List.cons (nat_lit 330) (List.cons (nat_lit 332) (List.cons (nat_lit 333) (List.cons (nat_lit 334) (List.cons (nat_lit 336) (List.cons (nat_lit 337) (List.cons (nat_lit 339) (List.cons (nat_lit 340) (List.cons (nat_lit 341) (List.cons (nat_lit 343) (List.cons (nat_lit 344) (List.cons (nat_lit 346) (List.cons (nat_lit 347) (List.cons (nat_lit 348) (List.cons (nat_lit 350) (List.cons (nat_lit 351) (List.cons (nat_lit 353) (List.cons (nat_lit 354) (List.cons (nat_lit 355) (List.cons (nat_lit 357) (List.cons (nat_lit 358) (List.cons (nat_lit 360) (List.cons (nat_lit 361) (List.cons (nat_lit 362) (List.cons (nat_lit 364) (List.cons (nat_lit 365) (List.cons (nat_lit 367) (List.cons (nat_lit 368) (List.cons (nat_lit 369) (List.cons (nat_lit 371) (List.cons (nat_lit 372) (List.cons (nat_lit 374) (List.cons (nat_lit 375) (List.cons (nat_lit 376) (List.cons (nat_lit 378) (List.cons (nat_lit 379) (List.cons (nat_lit 381) (List.cons (nat_lit 382) (List.cons (nat_lit 383) (List.cons (nat_lit 385) (List.cons (nat_lit 386) (List.cons (nat_lit 388) (List.cons (nat_lit 389) (List.cons (nat_lit 390) (List.cons (nat_lit 392) (List.cons (nat_lit 393) (List.cons (nat_lit 395) (List.cons (nat_lit 396) (List.cons (nat_lit 397) (List.cons (nat_lit 399) (List.cons (nat_lit 400) (List.cons (nat_lit 402) (List.cons (nat_lit 403) (List.cons (nat_lit 404) (List.cons (nat_lit 406) (List.cons (nat_lit 407) (List.cons (nat_lit 409) (List.cons (nat_lit 410) (List.cons (nat_lit 411) (List.cons (nat_lit 413) (List.cons (nat_lit 414) (List.cons (nat_lit 416) (List.cons (nat_lit 417) (List.cons (nat_lit 418) (List.cons (nat_lit 420) (List.cons (nat_lit 421) (List.cons (nat_lit 423) (List.cons (nat_lit 424) (List.cons (nat_lit 425) (List.cons (nat_lit 427) (List.cons (nat_lit 428) (List.cons (nat_lit 430) (List.cons (nat_lit 431) (List.cons (nat_lit 439) (List.cons (nat_lit 441) (List.cons (nat_lit 442) (List.cons (nat_lit 444) (List.cons (nat_lit 445) (List.cons (nat_lit 446) (List.cons (nat_lit 447) (List.cons (nat_lit 448) (List.cons (nat_lit 449) (List.cons (nat_lit 450) (List.cons (nat_lit 453) (List.cons (nat_lit 460) (List.cons (nat_lit 462) (List.cons (nat_lit 463) (List.cons (nat_lit 465) (List.cons (nat_lit 466) (List.cons (nat_lit 467) (List.cons (nat_lit 469) (List.cons (nat_lit 470) (List.cons (nat_lit 472) (List.cons (nat_lit 473) (List.cons (nat_lit 474) (List.cons (nat_lit 475) (List.cons (nat_lit 476) (List.cons (nat_lit 479) (List.cons (nat_lit 486) (List.cons (nat_lit 488) (List.cons (nat_lit 489) (List.cons (nat_lit 491) (List.cons (nat_lit 492) (List.cons (nat_lit 493) (List.cons (nat_lit 495) (List.cons (nat_lit 496) (List.cons (nat_lit 498) (List.cons (nat_lit 499) (List.cons (nat_lit 500) (List.cons (nat_lit 501) (List.cons (nat_lit 502) (List.cons (nat_lit 505) (List.cons (nat_lit 512) (List.cons (nat_lit 514) (List.cons (nat_lit 515) (List.cons (nat_lit 517) (List.cons (nat_lit 518) (List.cons (nat_lit 519) (List.cons (nat_lit 521) (List.cons (nat_lit 522) (List.cons (nat_lit 524) (List.cons (nat_lit 525) (List.cons (nat_lit 526) (List.cons (nat_lit 527) (List.cons (nat_lit 528) (List.cons (nat_lit 531) (List.cons (nat_lit 538) (List.cons (nat_lit 540) (List.cons (nat_lit 541) (List.cons (nat_lit 543) (List.cons (nat_lit 544) (List.cons (nat_lit 545) (List.cons (nat_lit 547) (List.cons (nat_lit 548) (List.cons (nat_lit 550) (List.cons (nat_lit 551) (List.cons (nat_lit 552) (List.cons (nat_lit 553) (List.cons (nat_lit 554) (List.cons (nat_lit 557) (List.cons (nat_lit 564) (List.cons (nat_lit 566) (List.cons (nat_lit 567) (List.cons (nat_lit 569) (List.cons (nat_lit 570) (List.cons (nat_lit 571) (List.cons (nat_lit 573) (List.cons (nat_lit 574) (List.cons (nat_lit 576) (List.cons (nat_lit 577) (List.cons (nat_lit 578) (List.cons (nat_lit 579) (List.cons (nat_lit 580) (List.cons (nat_lit 583) (List.cons (nat_lit 590) (List.cons (nat_lit 592) (List.cons (nat_lit 593) (List.cons (nat_lit 595) (List.cons (nat_lit 596) (List.cons (nat_lit 597) (List.cons (nat_lit 599) (List.cons (nat_lit 600) (List.cons (nat_lit 602) (List.cons (nat_lit 603) (List.cons (nat_lit 604) (List.cons (nat_lit 605) (List.cons (nat_lit 606) (List.cons (nat_lit 609) (List.cons (nat_lit 611) (List.cons (nat_lit 612) (List.cons (nat_lit 614) (List.cons (nat_lit 615) (List.cons (nat_lit 616) (List.cons (nat_lit 618) (List.cons (nat_lit 619) (List.cons (nat_lit 621) (List.cons (nat_lit 622) (List.cons (nat_lit 633) (List.cons (nat_lit 635) (List.cons (nat_lit 636) (List.cons (nat_lit 638) (List.cons (nat_lit 639) (List.cons (nat_lit 640) (List.cons (nat_lit 642) (List.cons (nat_lit 643) (List.cons (nat_lit 645) (List.cons (nat_lit 646) (List.cons (nat_lit 647) (List.cons (nat_lit 649) (List.cons (nat_lit 650) (List.cons (nat_lit 652) (List.cons (nat_lit 653) (List.cons (nat_lit 654) (List.cons (nat_lit 656) (List.cons (nat_lit 657) (List.cons (nat_lit 659) (List.cons (nat_lit 660) (List.cons (nat_lit 661) (List.cons (nat_lit 663) (List.cons (nat_lit 664) (List.cons (nat_lit 666) (List.cons (nat_lit 667) (List.cons (nat_lit 668) (List.cons (nat_lit 670) (List.cons (nat_lit 671) (List.cons (nat_lit 673) (List.cons (nat_lit 674) (List.cons (nat_lit 675) (List.cons (nat_lit 677) (List.cons (nat_lit 678) (List.cons (nat_lit 680) (List.cons (nat_lit 681) (List.cons (nat_lit 682) (List.cons (nat_lit 684) (List.cons (nat_lit 685) (List.cons (nat_lit 687) (List.cons (nat_lit 688) (List.nil))))))))))))))))))))))))))))))))))))))))))))))))))))))))))))))))))))))))))))))))))))))))))))))))))))))))))))))))))))))))))))))))))))))))))))))))))))))))))))))))))))))))))))))))))))))))))))))))))))))))))))))))))))))))))))))))))))))))))))))))))))))))))))))))))))))))))))))))))))))))))))))))))))))))))))))))))))))))))))))))))))))))))))))))))))))))))))))))))))))))))))))))))))))))))))))))))))))))))))))))))
variable (P:Params)
def OL:List Obj:=[boot_o_0 P,
boot_o_1 P,
boot_o_4 P,
boot_o_5 P,
boot_o_6 P,
boot_o_7 P,
boot_o_8 P,
boot_o_9 P,
boot_o_10 P,
boot_o_7 P,
.mk .none none (.fields #[.int 2 0,.int 0 0,.ref 20,.int 4 0,.int 0 0,.ref 33,.int 6 0,.int 0 0,.ref 45,.int 8 0,.int 0 0,.ref 57,.int 10 0,.int 0 0,.ref 69,.int 15 0,.int 0 0,.ref 88,.int 17 0,.int 0 0,.ref 100,.int 20 0,.int 0 0,.ref 112,.int 25 0,.int 0 0,.ref 117,.int 38 0,.int 0 0,.ref 124,.int 48 0,.int 0 0,.ref 131,.int 50 0,.int 0 0,.ref 138,.int 52 0,.int 0 0,.ref 145,.int 60 0,.int 0 0,.ref 152,.int 67 0,.int 0 0,.ref 159,.int 72 0,.int 0 0,.ref 166,.int 80 0,.int 0 0,.ref 173,.int 89 0,.int 0 0,.ref 180,.int 95 0,.int 0 0,.ref 187,.int 114 0,.int 0 0,.ref 229,.int 123 0,.int 0 0,.ref 248,.int 133 0,.int 0 0,.ref 255,.int 138 0,.int 0 0,.ref 262,.int 146 0,.int 0 0,.ref 269,.int 148 0,.int 0 0,.ref 276,.int 150 0,.int 0 0,.ref 283,.int 154 0,.int 0 0,.ref 290,.int 156 0,.int 0 0,.ref 297,.int 163 0,.int 0 0,.ref 304,.int 165 0,.int 0 0,.ref 311,.int 176 0,.int 0 0,.ref 318,.int 178 0,.int 0 0,.ref 325,.int 181 0,.int 0 0,.ref 332,.int 183 0,.int 0 0,.ref 339,.int 185 0,.int 0 0,.ref 346,.int 187 0,.int 0 0,.ref 353,.int 192 0,.int 0 0,.ref 360,.int 213 0,.int 0 0,.ref 367,.int 222 0,.int 0 0,.ref 374,.int 229 0,.int 0 0,.ref 381,.int 247 0,.int 0 0,.ref 388,.int 251 0,.int 0 0,.ref 395,.int 255 0,.int 0 0,.ref 402,.int 268 0,.int 0 0,.ref 409,.int 273 0,.int 0 0,.ref 416,.int 284 0,.int 0 0,.ref 423,.int 290 0,.int 0 0,.ref 430,.int 311 0,.int 0 0,.ref 437,.int 315 0,.int 0 0,.ref 458,.int 322 0,.int 0 0,.ref 484,.int 330 0,.int 0 0,.ref 510,.int 338 0,.int 0 0,.ref 536,.int 345 0,.int 0 0,.ref 562,.int 353 0,.int 0 0,.ref 588,.int 361 0,.int 0 0,.ref 614,.int 366 0,.int 0 0,.ref 621,.int 373 0,.int 0 0,.ref 626,.int 380 0,.int 0 0,.ref 631,.int 393 0,.int 0 0,.ref 638,.int 412 0,.int 0 0,.ref 645,.int 425 0,.int 0 0,.ref 652,.int 430 0,.int 0 0,.ref 659,.int 453 0,.int 0 0,.ref 666,.int 466 0,.int 0 0,.ref 673,.int 479 0,.int 0 0,.ref 680,.int 488 0,.int 0 0,.ref 687]) #[],
cO "<module>" 182 "<module>" 183 184 1 0 0 0 0 11 false 12 .none .none .none .none 185 1 186,
.mk (.type "frame") none .plain #[some (.ref 13),some (.ref 3),some (.ref 3),none,some (.str "__main__" 164),none,some (.ref 0)],
.mk (.type "builtin_function_or_method") none (.fields #[.builtin "type.__prepare__",.type "type"]) #[],
dO #[dE P "__module__" 196 (.str "papervault.errors" 187),dE P "__qualname__" 198 (.str "VaultError" 197),dE P "__firstlineno__" 200 (.int 2 199),dE P "__static_attributes__" 201 (.ref 22)] 4,
boot_o_7 P,
boot_o_8 P,
cO "VaultError" 191 "VaultError" 192 193 2 0 0 0 0 18 false 19 .none .none .none .none 194 2 195,
.mk (.type "frame") none .plain #[some (.ref 20),some (.ref 3),some (.ref 17),none,some (.str "papervault.errors" 187),none,some (.ref 0)],
.mk (.type "super") none (.fields #[.ref 24,.ref 24,.ref 24]) #[],
.mk (.type "builtin_function_or_method") none (.fields #[.builtin "object.__init_subclass__",.ref 24]) #[],
.mk (.type "builtin_function_or_method") none (.fields #[.builtin "type.__prepare__",.type "type"]) #[],
dO #[dE P "__module__" 214 (.str "papervault.errors" 187),dE P "__qualname__" 216 (.str "NoThing" 215),dE P "__firstlineno__" 218 (.int 4 217),dE P "__static_attributes__" 219 (.ref 35)] 4,
boot_o_7 P,
boot_o_8 P,
cO "NoThing" 209 "NoThing" 210 211 4 0 0 0 0 31 false 32 .none .none .none .none 212 4 213,
.mk (.type "frame") none .plain #[some (.ref 33),some (.ref 3),some (.ref 30),none,some (.str "papervault.errors" 187),none,some (.ref 0)],
.mk (.type "super") none (.fields #[.ref 37,.ref 37,.ref 37]) #[],
.mk (.type "builtin_function_or_method") none (.fields #[.builtin "object.__init_subclass__",.ref 37]) #[],
.mk (.type "builtin_function_or_method") none (.fields #[.builtin "type.__prepare__",.type "type"]) #[],
dO #[dE P "__module__" 230 (.str "papervault.errors" 187),dE P "__qualname__" 232 (.str "NoPaper" 231),dE P "__firstlineno__" 234 (.int 6 233),dE P "__static_attributes__" 235 (.ref 47)] 4,
boot_o_7 P,
boot_o_8 P,
cO "NoPaper" 225 "NoPaper" 226 227 6 0 0 0 0 43 false 44 .none .none .none .none 228 6 229,
.mk (.type "frame") none .plain #[some (.ref 45),some (.ref 3),some (.ref 42),none,some (.str "papervault.errors" 187),none,some (.ref 0)],
.mk (.type "super") none (.fields #[.ref 49,.ref 49,.ref 49]) #[],
.mk (.type "builtin_function_or_method") none (.fields #[.builtin "object.__init_subclass__",.ref 49]) #[],
.mk (.type "builtin_function_or_method") none (.fields #[.builtin "type.__prepare__",.type "type"]) #[],
dO #[dE P "__module__" 246 (.str "papervault.errors" 187),dE P "__qualname__" 248 (.str "BadThing" 247),dE P "__firstlineno__" 250 (.int 8 249),dE P "__static_attributes__" 251 (.ref 59)] 4,
boot_o_7 P,
boot_o_8 P,
cO "BadThing" 241 "BadThing" 242 243 8 0 0 0 0 55 false 56 .none .none .none .none 244 8 245,
.mk (.type "frame") none .plain #[some (.ref 57),some (.ref 3),some (.ref 54),none,some (.str "papervault.errors" 187),none,some (.ref 0)],
.mk (.type "super") none (.fields #[.ref 61,.ref 61,.ref 61]) #[],
.mk (.type "builtin_function_or_method") none (.fields #[.builtin "object.__init_subclass__",.ref 61]) #[],
.mk (.type "builtin_function_or_method") none (.fields #[.builtin "type.__prepare__",.type "type"]) #[],
dO #[dE P "__module__" 262 (.str "papervault.errors" 187),dE P "__qualname__" 264 (.str "Clash" 263),dE P "__firstlineno__" 266 (.int 10 265),dE P "__init__" 275 (.ref 77),dE P "__static_attributes__" 278 (.ref 78)] 5,
boot_o_7 P,
.mk .none none (.fields #[.int 12 0,.int 4 0,.ref 76]) #[],
cO "Clash" 257 "Clash" 258 259 10 0 0 0 0 67 false 68 .none .none .none .none 260 10 261,
.mk (.type "frame") none .plain #[some (.ref 69),some (.ref 3),some (.ref 66),none,some (.str "papervault.errors" 187),none,some (.ref 0)],
boot_o_8 P,
f0 "__init__" "Clash.__init__" (L2.inClass (Pv.top 5) 0),
.mk (.type "super") none (.fields #[.ref 80,.ref 80,.ref 80]) #[],
.mk (.type "builtin_function_or_method") none (.fields #[.builtin "object.__init_subclass__",.ref 80]) #[],
.mk (.type "builtin_function_or_method") none (.fields #[.builtin "type.__prepare__",.type "type"]) #[],
dO #[dE P "__module__" 289 (.str "papervault.errors" 187),dE P "__qualname__" 291 (.str "NotOn" 290),dE P "__firstlineno__" 293 (.int 15 292),dE P "__static_attributes__" 294 (.ref 90)] 4,
boot_o_7 P,
boot_o_8 P,
cO "NotOn" 284 "NotOn" 285 286 15 0 0 0 0 86 false 87 .none .none .none .none 287 15 288,
.mk (.type "frame") none .plain #[some (.ref 88),some (.ref 3),some (.ref 85),none,some (.str "papervault.errors" 187),none,some (.ref 0)],
.mk (.type "super") none (.fields #[.ref 92,.ref 92,.ref 92]) #[],
.mk (.type "builtin_function_or_method") none (.fields #[.builtin "object.__init_subclass__",.ref 92]) #[],
.mk (.type "builtin_function_or_method") none (.fields #[.builtin "type.__prepare__",.type "type"]) #[],
dO #[dE P "__module__" 305 (.str "papervault.errors" 187),dE P "__qualname__" 307 (.str "NoState" 306),dE P "__firstlineno__" 309 (.int 17 308),dE P "__static_attributes__" 310 (.ref 102)] 4,
boot_o_7 P,
boot_o_8 P,
cO "NoState" 300 "NoState" 301 302 17 0 0 0 0 98 false 99 .none .none .none .none 303 17 304,
.mk (.type "frame") none .plain #[some (.ref 100),some (.ref 3),some (.ref 97),none,some (.str "papervault.errors" 187),none,some (.ref 0)],
.mk (.type "super") none (.fields #[.ref 104,.ref 104,.ref 104]) #[],
.mk (.type "builtin_function_or_method") none (.fields #[.builtin "object.__init_subclass__",.ref 104]) #[],
boot_o_8 P,
f0 "seal" "seal" (Pv.top 9),
boot_o_8 P,
f0 "codes" "codes" (Pv.top 10),
boot_o_8 P,
f0 "number_of" "number_of" (Pv.top 11),
boot_o_8 P,
f0 "is_whole" "is_whole" (Pv.top 17),
boot_o_8 P,
f0 "is_thing" "is_thing" (Pv.top 18),
boot_o_8 P,
f0 "is_thing_within" "is_thing_within" (Pv.top 19),
boot_o_8 P,
f0 "is_tuple_within" "is_tuple_within" (Pv.top 20),
boot_o_8 P,
f0 "has_signs_of_things" "has_signs_of_things" (Pv.top 21),
boot_o_8 P,
f0 "kind_of" "kind_of" (Pv.top 22),
boot_o_8 P,
f0 "ahead" "ahead" (Pv.top 23),
boot_o_8 P,
f0 "is_tuple_ahead" "is_tuple_ahead" (Pv.top 24),
boot_o_7 P,
.mk (.type "builtin_function_or_method") none (.fields #[.builtin "type.__prepare__",.type "type"]) #[],
dO #[dE P "__module__" 424 (.str "papervault.vaults" 415),dE P "__qualname__" 426 (.str "Vault" 425),dE P "__firstlineno__" 428 (.int 95 427),dE P "__init__" 435 (.ref 195),dE P "refuse_clash" 444 (.ref 202),dE P "lay" 453 (.ref 209),dE P "thing" 461 (.ref 216),dE P "__static_attributes__" 463 (.ref 217)] 8,
boot_o_7 P,
.mk .none none (.fields #[.int 97 0,.int 4 0,.ref 194,.int 100 0,.int 4 0,.ref 201,.int 104 0,.int 4 0,.ref 208,.int 110 0,.int 4 0,.ref 215]) #[],
cO "Vault" 419 "Vault" 420 421 95 0 0 0 0 185 false 186 .none .none .none .none 422 95 423,
.mk (.type "frame") none .plain #[some (.ref 187),some (.ref 3),some (.ref 184),none,some (.str "papervault.vaults" 415),none,some (.ref 0)],
boot_o_8 P,
f0 "__init__" "Vault.__init__" (L2.inClass (Pv.top 26) 0),
boot_o_8 P,
f0 "refuse_clash" "Vault.refuse_clash" (L2.inClass (Pv.top 26) 1),
boot_o_8 P,
f0 "lay" "Vault.lay" (L2.inClass (Pv.top 26) 2),
boot_o_8 P,
f0 "thing" "Vault.thing" (L2.inClass (Pv.top 26) 3),
.mk (.type "super") none (.fields #[.ref 219,.ref 219,.ref 219]) #[],
.mk (.type "builtin_function_or_method") none (.fields #[.builtin "object.__init_subclass__",.ref 219]) #[],
.mk (.type "builtin_function_or_method") none (.fields #[.builtin "type.__prepare__",.type "type"]) #[],
dO #[dE P "__module__" 478 (.str "papervault.vaults" 415),dE P "__qualname__" 480 (.str "Witness" 479),dE P "__firstlineno__" 482 (.int 114 481),dE P "__init__" 491 (.ref 237),dE P "__static_attributes__" 492 (.ref 238)] 5,
boot_o_7 P,
.mk .none none (.fields #[.int 116 0,.int 4 0,.ref 236]) #[],
cO "Witness" 473 "Witness" 474 475 114 0 0 0 0 227 false 228 .none .none .none .none 476 114 477,
.mk (.type "frame") none .plain #[some (.ref 229),some (.ref 3),some (.ref 226),none,some (.str "papervault.vaults" 415),none,some (.ref 0)],
boot_o_8 P,
f0 "__init__" "Witness.__init__" (L2.inClass (Pv.top 27) 0),
.mk (.type "super") none (.fields #[.ref 240,.ref 240,.ref 240]) #[],
.mk (.type "builtin_function_or_method") none (.fields #[.builtin "object.__init_subclass__",.ref 240]) #[],
boot_o_8 P,
f0 "checked" "checked" (Pv.top 29),
boot_o_8 P,
f0 "node_beneath" "node_beneath" (Pv.top 38),
boot_o_8 P,
f0 "is_node" "is_node" (Pv.top 39),
boot_o_8 P,
f0 "is_root" "is_root" (Pv.top 40),
boot_o_8 P,
f0 "size" "size" (Pv.top 41),
boot_o_8 P,
f0 "size_beneath" "size_beneath" (Pv.top 42),
boot_o_8 P,
f0 "rank" "rank" (Pv.top 43),
boot_o_8 P,
f0 "above" "above" (Pv.top 44),
boot_o_8 P,
f0 "side_of" "side_of" (Pv.top 46),
boot_o_8 P,
f0 "way_to" "way_to" (Pv.top 47),
boot_o_8 P,
f0 "ends_at" "ends_at" (Pv.top 48),
boot_o_8 P,
f0 "found" "found" (Pv.top 49),
boot_o_8 P,
f0 "is_empty" "is_empty" (Pv.top 50),
boot_o_8 P,
f0 "goes_left" "goes_left" (Pv.top 51),
boot_o_8 P,
f0 "goes_right" "goes_right" (Pv.top 52),
boot_o_8 P,
f0 "refuse_sum" "refuse_sum" (Pv.top 53),
boot_o_8 P,
f0 "stretch" "stretch" (Pv.top 54),
boot_o_8 P,
f0 "count_ahead" "count_ahead" (Pv.top 55),
boot_o_8 P,
f0 "counted" "counted" (Pv.top 56),
boot_o_8 P,
f0 "nth" "nth" (Pv.top 57),
boot_o_8 P,
f0 "with_tree" "with_tree" (Pv.top 58),
boot_o_8 P,
f0 "hung" "hung" (Pv.top 59),
boot_o_8 P,
f0 "parted" "parted" (Pv.top 60),
boot_o_8 P,
f0 "place_in" "place_in" (Pv.top 61),
boot_o_8 P,
f0 "put" "put" (Pv.top 62),
boot_o_8 P,
f0 "cut" "cut" (Pv.top 63),
boot_o_8 P,
f0 "joined" "joined" (Pv.top 64),
boot_o_7 P,
.mk (.type "builtin_function_or_method") none (.fields #[.builtin "type.__prepare__",.type "type"]) #[],
dO #[dE P "__module__" 805 (.str "papervault.asks" 796),dE P "__qualname__" 807 (.str "Ask" 806),dE P "__firstlineno__" 809 (.int 311 808),dE P "answer" 818 (.ref 445),dE P "__static_attributes__" 819 (.ref 446)] 5,
boot_o_7 P,
.mk .none none (.fields #[.int 313 0,.int 4 0,.ref 444]) #[],
cO "Ask" 800 "Ask" 801 802 311 0 0 0 0 435 false 436 .none .none .none .none 803 311 804,
.mk (.type "frame") none .plain #[some (.ref 437),some (.ref 3),some (.ref 434),none,some (.str "papervault.asks" 796),none,some (.ref 0)],
boot_o_8 P,
f0 "answer" "Ask.answer" (L2.inClass (Pv.top 66) 0),
.mk (.type "super") none (.fields #[.ref 448,.ref 448,.ref 448]) #[],
.mk (.type "builtin_function_or_method") none (.fields #[.builtin "object.__init_subclass__",.ref 448]) #[],
.mk (.type "builtin_function_or_method") none (.fields #[.builtin "type.__prepare__",.type "type"]) #[],
dO #[dE P "__module__" 834 (.str "papervault.asks" 796),dE P "__qualname__" 836 (.str "Find" 835),dE P "__firstlineno__" 838 (.int 315 837),dE P "__init__" 846 (.ref 466),dE P "answer" 855 (.ref 473),dE P "__static_attributes__" 857 (.ref 474)] 6,
boot_o_7 P,
.mk .none none (.fields #[.int 317 0,.int 4 0,.ref 465,.int 320 0,.int 4 0,.ref 472]) #[],
cO "Find" 829 "Find" 830 831 315 0 0 0 0 456 false 457 .none .none .none .none 832 315 833,
.mk (.type "frame") none .plain #[some (.ref 458),some (.ref 3),some (.ref 455),none,some (.str "papervault.asks" 796),none,some (.ref 0)],
boot_o_8 P,
f0 "__init__" "Find.__init__" (L2.inClass (Pv.top 67) 0),
boot_o_8 P,
f0 "answer" "Find.answer" (L2.inClass (Pv.top 67) 1),
.mk (.type "super") none (.fields #[.ref 476,.ref 476,.ref 476]) #[],
.mk (.type "builtin_function_or_method") none (.fields #[.builtin "object.__init_subclass__",.ref 476]) #[],
.mk (.type "builtin_function_or_method") none (.fields #[.builtin "type.__prepare__",.type "type"]) #[],
dO #[dE P "__module__" 868 (.str "papervault.asks" 796),dE P "__qualname__" 870 (.str "Stretch" 869),dE P "__firstlineno__" 872 (.int 322 871),dE P "__init__" 881 (.ref 492),dE P "answer" 890 (.ref 499),dE P "__static_attributes__" 893 (.ref 500)] 6,
boot_o_7 P,
.mk .none none (.fields #[.int 324 0,.int 4 0,.ref 491,.int 328 0,.int 4 0,.ref 498]) #[],
cO "Stretch" 863 "Stretch" 864 865 322 0 0 0 0 482 false 483 .none .none .none .none 866 322 867,
.mk (.type "frame") none .plain #[some (.ref 484),some (.ref 3),some (.ref 481),none,some (.str "papervault.asks" 796),none,some (.ref 0)],
boot_o_8 P,
f0 "__init__" "Stretch.__init__" (L2.inClass (Pv.top 68) 0),
boot_o_8 P,
f0 "answer" "Stretch.answer" (L2.inClass (Pv.top 68) 1),
.mk (.type "super") none (.fields #[.ref 502,.ref 502,.ref 502]) #[],
.mk (.type "builtin_function_or_method") none (.fields #[.builtin "object.__init_subclass__",.ref 502]) #[],
.mk (.type "builtin_function_or_method") none (.fields #[.builtin "type.__prepare__",.type "type"]) #[],
dO #[dE P "__module__" 904 (.str "papervault.asks" 796),dE P "__qualname__" 906 (.str "Count" 905),dE P "__firstlineno__" 908 (.int 330 907),dE P "__init__" 917 (.ref 518),dE P "answer" 926 (.ref 525),dE P "__static_attributes__" 929 (.ref 526)] 6,
boot_o_7 P,
.mk .none none (.fields #[.int 332 0,.int 4 0,.ref 517,.int 336 0,.int 4 0,.ref 524]) #[],
cO "Count" 899 "Count" 900 901 330 0 0 0 0 508 false 509 .none .none .none .none 902 330 903,
.mk (.type "frame") none .plain #[some (.ref 510),some (.ref 3),some (.ref 507),none,some (.str "papervault.asks" 796),none,some (.ref 0)],
boot_o_8 P,
f0 "__init__" "Count.__init__" (L2.inClass (Pv.top 69) 0),
boot_o_8 P,
f0 "answer" "Count.answer" (L2.inClass (Pv.top 69) 1),
.mk (.type "super") none (.fields #[.ref 528,.ref 528,.ref 528]) #[],
.mk (.type "builtin_function_or_method") none (.fields #[.builtin "object.__init_subclass__",.ref 528]) #[],
.mk (.type "builtin_function_or_method") none (.fields #[.builtin "type.__prepare__",.type "type"]) #[],
dO #[dE P "__module__" 940 (.str "papervault.asks" 796),dE P "__qualname__" 942 (.str "Nth" 941),dE P "__firstlineno__" 944 (.int 338 943),dE P "__init__" 952 (.ref 544),dE P "answer" 961 (.ref 551),dE P "__static_attributes__" 963 (.ref 552)] 6,
boot_o_7 P,
.mk .none none (.fields #[.int 340 0,.int 4 0,.ref 543,.int 343 0,.int 4 0,.ref 550]) #[],
cO "Nth" 935 "Nth" 936 937 338 0 0 0 0 534 false 535 .none .none .none .none 938 338 939,
.mk (.type "frame") none .plain #[some (.ref 536),some (.ref 3),some (.ref 533),none,some (.str "papervault.asks" 796),none,some (.ref 0)],
boot_o_8 P,
f0 "__init__" "Nth.__init__" (L2.inClass (Pv.top 70) 0),
boot_o_8 P,
f0 "answer" "Nth.answer" (L2.inClass (Pv.top 70) 1),
.mk (.type "super") none (.fields #[.ref 554,.ref 554,.ref 554]) #[],
.mk (.type "builtin_function_or_method") none (.fields #[.builtin "object.__init_subclass__",.ref 554]) #[],
.mk (.type "builtin_function_or_method") none (.fields #[.builtin "type.__prepare__",.type "type"]) #[],
dO #[dE P "__module__" 974 (.str "papervault.asks" 796),dE P "__qualname__" 976 (.str "Put" 975),dE P "__firstlineno__" 978 (.int 345 977),dE P "__init__" 987 (.ref 570),dE P "answer" 996 (.ref 577),dE P "__static_attributes__" 999 (.ref 578)] 6,
boot_o_7 P,
.mk .none none (.fields #[.int 347 0,.int 4 0,.ref 569,.int 351 0,.int 4 0,.ref 576]) #[],
cO "Put" 969 "Put" 970 971 345 0 0 0 0 560 false 561 .none .none .none .none 972 345 973,
.mk (.type "frame") none .plain #[some (.ref 562),some (.ref 3),some (.ref 559),none,some (.str "papervault.asks" 796),none,some (.ref 0)],
boot_o_8 P,
f0 "__init__" "Put.__init__" (L2.inClass (Pv.top 71) 0),
boot_o_8 P,
f0 "answer" "Put.answer" (L2.inClass (Pv.top 71) 1),
.mk (.type "super") none (.fields #[.ref 580,.ref 580,.ref 580]) #[],
.mk (.type "builtin_function_or_method") none (.fields #[.builtin "object.__init_subclass__",.ref 580]) #[],
.mk (.type "builtin_function_or_method") none (.fields #[.builtin "type.__prepare__",.type "type"]) #[],
dO #[dE P "__module__" 1010 (.str "papervault.asks" 796),dE P "__qualname__" 1012 (.str "Cut" 1011),dE P "__firstlineno__" 1014 (.int 353 1013),dE P "__init__" 1022 (.ref 596),dE P "answer" 1031 (.ref 603),dE P "__static_attributes__" 1033 (.ref 604)] 6,
boot_o_7 P,
.mk .none none (.fields #[.int 355 0,.int 4 0,.ref 595,.int 358 0,.int 4 0,.ref 602]) #[],
cO "Cut" 1005 "Cut" 1006 1007 353 0 0 0 0 586 false 587 .none .none .none .none 1008 353 1009,
.mk (.type "frame") none .plain #[some (.ref 588),some (.ref 3),some (.ref 585),none,some (.str "papervault.asks" 796),none,some (.ref 0)],
boot_o_8 P,
f0 "__init__" "Cut.__init__" (L2.inClass (Pv.top 72) 0),
boot_o_8 P,
f0 "answer" "Cut.answer" (L2.inClass (Pv.top 72) 1),
.mk (.type "super") none (.fields #[.ref 606,.ref 606,.ref 606]) #[],
.mk (.type "builtin_function_or_method") none (.fields #[.builtin "object.__init_subclass__",.ref 606]) #[],
boot_o_8 P,
f0 "_law_row" "_law_row" (Pv.top 74),
boot_o_8 P,
f0 "_law_take" "_law_take" (Pv.top 75),
boot_o_7 P,
boot_o_8 P,
f0 "_law_text" "_law_text" (Pv.top 76),
cO "_law_text" 1056 "_law_text" 1057 1058 373 1 0 0 3 623 true 624 .none .none .none (.ref 625) 1059 373 1060,
f1 "_law_text" "_law_text" (Pv.top 76) "law_papervault_k43_bad_things" 1037 626,
boot_o_7 P,
boot_o_8 P,
f0 "_law_thing" "_law_thing" (Pv.top 77),
cO "_law_thing" 1062 "_law_thing" 1063 1064 380 2 0 0 3 628 true 629 .none .none .none (.ref 630) 1065 380 1066,
f1 "_law_thing" "_law_thing" (Pv.top 77) "law_papervault_k43_bad_things" 1037 631,
boot_o_8 P,
f0 "_law_spoilt" "_law_spoilt" (Pv.top 78),
boot_o_8 P,
f0 "_law_kinds" "_law_kinds" (Pv.top 79),
boot_o_8 P,
f0 "_law_ask" "_law_ask" (Pv.top 80),
boot_o_8 P,
f0 "_law_is_bad" "_law_is_bad" (Pv.top 81),
boot_o_8 P,
f0 "_law_is_good" "_law_is_good" (Pv.top 82),
boot_o_8 P,
f0 "_law_ladder" "_law_ladder" (Pv.top 83),
boot_o_8 P,
f0 "_law_held" "_law_held" (Pv.top 84),
boot_o_8 P,
f0 "law" "law" (Pv.top 85)]
def FL:List Obj:=wv [2,2,11,1,6,4,2,1,6,3,2,1,6,3,2,1,6,3,2,1,6,1,1,2,1,5,2,1,6,3,2,1,6,3,2,1,1,2,1,3,2,3,1,2,1,3,1,2,1,3,1,2,1,3,1,2,1,3,1,2,1,3,1,2,1,3,1,2,1,3,1,2,1,3,1,2,1,2,7,1,1,2,1,3,1,2,1,3,1,2,1,3,1,2,1,7,2,1,6,1,1,2,1,5,2,1,1,2,1,3,1,2,1,3,1,2,1,3,1,2,1,3,1,2,1,3,1,2,1,3,1,2,1,3,1,2,1,3,1,2,1,3,1,2,1,3,1,2,1,3,1,2,1,3,1,2,1,3,1,2,1,3,1,2,1,3,1,2,1,3,1,2,1,3,1,2,1,3,1,2,1,3,1,2,1,3,1,2,1,3,1,2,1,3,1,2,1,3,1,2,1,3,1,2,1,3,1,2,1,3,1,2,1,2,7,1,1,2,1,7,2,1,6,1,1,2,1,3,1,2,1,5,2,1,6,1,1,2,1,3,1,2,1,5,2,1,6,1,1,2,1,3,1,2,1,5,2,1,6,1,1,2,1,3,1,2,1,5,2,1,6,1,1,2,1,3,1,2,1,5,2,1,6,1,1,2,1,3,1,2,1,5,2,1,1,2,1,3,1,2,1,2,10,1,1,2,1,3,1,2,1,3,1,2,1,3,1,2,1,3,1,2,1,3,1,2,1,3,1,2,1,3,1,2,1,2] (OL P) ((KK P).map (·.2))
def T0:BT:=bt 12 ((((FL P).take 15).set 3 (oo0 P)).set 12 (boot_o_8 P))
def T1:BT:=bt 12 ((((FL P).take 161).set 3 (oo1 P)).set 12 (oo2 P))
def T2:BT:=bt 12 ((((FL P).take 432).set 3 (oo3 P)).set 12 (oo4 P))
def T3:BT:=bt 12 (((((FL P).take 583).set 3 (oo5 P)).set 12 (oo6 P)).set 448 (oo7 P))
def T4:BT:=bt 12 (FL P)
def HF:Heap:={objs:=⟨FL P⟩}
end
noncomputable def VQ:Program:={PySem.Challenge.pw_papervault_k43_bad_things with main:={PySem.Challenge.pw_papervault_k43_bad_things.main with body:=[top 1,top 2,top 3,top 4,top 5,top 6,top 7,top 9,top 10,top 11,top 13,top 14,top 15,top 16,top 17,top 18,top 19,top 20,top 21,top 22,top 23,top 24,top 26,top 27,top 29,top 31,top 32,top 33,top 34,top 35,top 36,top 37,top 38,top 39,top 40,top 41,top 42,top 43,top 44,top 46,top 47,top 48,top 49,top 50,top 51,top 52,top 53,top 54,top 55,top 56,top 57,top 58,top 59,top 60,top 61,top 62,top 63,top 64,top 66,top 67,top 68,top 69,top 70,top 71,top 72,top 74,top 75,top 76,top 77,top 78,top 79,top 80,top 81,top 82,top 83,top 84,top 85]}}
noncomputable abbrev RQ:OpenRow:=OpenLaw.row PySem.Challenge.rw_papervault_k43_bad_things
noncomputable def EV:Env:={scope:=RQ.prog.main.scope,locals:=mainNs,globals:=mainNs,cells:=[],code:=.ref 13,frame:=some 14}
noncomputable abbrev BQ:List Stmt:=behindTheImports RQ.prog
noncomputable abbrev CQ:Code:=.body BQ EV
noncomputable abbrev TQ:List Frame:=[topFrame ⟨0,0,0,0⟩]
noncomputable abbrev ST (t:BT)(n k:Nat)(os:OsState):SharedT:=⟨t,n,{}, #[],{},k,os⟩
theorem go0 (w:World):(fun os=>topGo treeTable RQ.prog w 11 (some (.ref 6)) 12 {heap:=boot_heap w.params,drawn:=boot_drawn,toks:=boot_toks,os:=os} (topStub RQ.prog))=fun os=>some ((ST (T0 w.params) 15 187 os).abs,⟨denote treeTable CQ,CQ,⟨0,0,0,0⟩,TQ⟩):=by kernel_rfl
theorem go1 (w:World):(fun os=>segRun treeTable RQ.prog w 11 (some (.ref 6)) 1 1 (ST (T0 w.params) 15 187 os).abs (blockOf BQ EV CQ ⟨0,0,0,0⟩ TQ))=fun os=>some (Flow.next,(ST (T0 w.params) 15 187 os).abs,CQ,⟨0,0,0,0⟩):=by kernel_rfl
theorem pc1 (w:World):(fun os=>PySem.W.Fast.tw10110043849684766642 PySem.W.Fast.tw14364793385576792824 RQ.prog w 11 (some (.ref 6)) 1 1828 (ST (T0 w.params) 15 187 os) (piecesOf (BQ.take 22) EV CQ ⟨0,0,0,0⟩ TQ))=fun os=>some (Flow.next,ST (T1 w.params) 161 389 os,CQ,⟨67,0,71,15⟩):=by kernel_rfl
theorem sg1 (w:World)(os:OsState):segRunT treeTable RQ.prog w 11 (some (.ref 6)) 1 1828 (ST (T0 w.params) 15 187 os) (piecesOf (BQ.take 22) EV CQ ⟨0,0,0,0⟩ TQ)=some (Flow.next,ST (T1 w.params) 161 389 os,CQ,⟨67,0,71,15⟩):=by
 rw [PySem.W.Fast.te10110043849684766642,PySem.W.Fast.te14364793385576792824]
 exact congrFun (pc1 w) os
theorem pc2 (w:World):(fun os=>PySem.W.Fast.tw10110043849684766642 PySem.W.Fast.tw14364793385576792824 RQ.prog w 11 (some (.ref 6)) 1 1690 (ST (T1 w.params) 161 389 os) (piecesOf ((BQ.drop 22).take 44) EV CQ ⟨67,0,71,15⟩ TQ))=fun os=>some (Flow.next,ST (T2 w.params) 432 798 os,CQ,⟨310,0,310,8⟩):=by kernel_rfl
theorem sg2 (w:World)(os:OsState):segRunT treeTable RQ.prog w 11 (some (.ref 6)) 1 1690 (ST (T1 w.params) 161 389 os) (piecesOf ((BQ.drop 22).take 44) EV CQ ⟨67,0,71,15⟩ TQ)=some (Flow.next,ST (T2 w.params) 432 798 os,CQ,⟨310,0,310,8⟩):=by
 rw [PySem.W.Fast.te10110043849684766642,PySem.W.Fast.te14364793385576792824]
 exact congrFun (pc2 w) os
theorem pc3 (w:World):(fun os=>PySem.W.Fast.tw10110043849684766642 PySem.W.Fast.tw14364793385576792824 RQ.prog w 11 (some (.ref 6)) 1 1632 (ST (T2 w.params) 432 798 os) (piecesOf (((BQ.drop 22).drop 44).take 6) EV CQ ⟨310,0,310,8⟩ TQ))=fun os=>some (Flow.next,ST (T3 w.params) 583 1003 os,CQ,⟨345,0,352,53⟩):=by kernel_rfl
theorem sg3 (w:World)(os:OsState):segRunT treeTable RQ.prog w 11 (some (.ref 6)) 1 1632 (ST (T2 w.params) 432 798 os) (piecesOf (((BQ.drop 22).drop 44).take 6) EV CQ ⟨310,0,310,8⟩ TQ)=some (Flow.next,ST (T3 w.params) 583 1003 os,CQ,⟨345,0,352,53⟩):=by
 rw [PySem.W.Fast.te10110043849684766642,PySem.W.Fast.te14364793385576792824]
 exact congrFun (pc3 w) os
theorem pc4 (w:World):(fun os=>PySem.W.Fast.tw10110043849684766642 PySem.W.Fast.tw14364793385576792824 RQ.prog w 11 (some (.ref 6)) 1 699 (ST (T3 w.params) 583 1003 os) (piecesOf ((((BQ.drop 22).drop 44).drop 6).take 14) EV CQ ⟨345,0,352,53⟩ TQ))=fun os=>some (Flow.next,ST (T4 w.params) 689 1169 os,CQ,⟨488,0,497,16⟩):=by kernel_rfl
theorem sg4 (w:World)(os:OsState):segRunT treeTable RQ.prog w 11 (some (.ref 6)) 1 699 (ST (T3 w.params) 583 1003 os) (piecesOf ((((BQ.drop 22).drop 44).drop 6).take 14) EV CQ ⟨345,0,352,53⟩ TQ)=some (Flow.next,ST (T4 w.params) 689 1169 os,CQ,⟨488,0,497,16⟩):=by
 rw [PySem.W.Fast.te10110043849684766642,PySem.W.Fast.te14364793385576792824]
 exact congrFun (pc4 w) os
noncomputable abbrev SF (w:World)(os:OsState):Shared:={heap:=HF w.params,toks:=1169,os:=os}
theorem goN (w:World):(fun os=>topRun treeTable RQ.prog w 11 (some (.ref 6)) 3 (ST (T4 w.params) 689 1169 os).abs ⟨doneF Flow.next,CQ,⟨488,0,497,16⟩,TQ⟩)=fun os=>some (SF w os):=by kernel_rfl
theorem goE:((((BQ.drop 22).drop 44).drop 6).drop 14)=[]:=by kernel_rfl
theorem goA {w:World}{N:Nat}{s r:Shared}{b:List Stmt}{q:Pos}(k:Nat)(h:topRun treeTable RQ.prog w 11 (some (.ref 6)) N s (restOf (b.take k++b.drop k) EV CQ q TQ)=some r):topRun treeTable RQ.prog w 11 (some (.ref 6)) N s (restOf b EV CQ q TQ)=some r:=by rwa [List.take_append_drop] at h
theorem runs (w:World)(os:OsState):topRun treeTable RQ.prog w 11 (some (.ref 6)) (12+(1+(1828+(1690+(1632+(699+(3))))))) {heap:=boot_heap w.params,drawn:=boot_drawn,toks:=boot_toks,os:=os} (topStub RQ.prog)=some (SF w os):=by
 refine go_top (congrFun (go0 w) os) ?_
 refine piece_block (congrFun (go1 w) os) ?_
 refine goA 22 ?_
 refine piece_app (segRun_of (sg1 w os)) ?_
 refine goA 44 ?_
 refine piece_app (segRun_of (sg2 w os)) ?_
 refine goA 6 ?_
 refine piece_app (segRun_of (sg3 w os)) ?_
 refine goA 14 ?_
 refine piece_app (segRun_of (sg4 w os)) ?_
 rw [goE]
 exact piece_nil (congrFun (goN w) os)
noncomputable abbrev SQ (s:Shared):=PySem.W.Fast.tw4187177175401517315 VQ [] [] (fun s=>xlAt VQ [] s && recOk (RowW.records (OpenRow.toRowW RQ)) s) true s
theorem zmo:[]=importedModules RQ.prog.main.body:=by kernel_rfl
theorem opn (w:World):(fencedOpening treeTable RQ.prog w 5865).map (fun s=>(s.heap,s.gens,s.drawn,s.toks))=some (boot_heap w.params, #[],boot_drawn,boot_toks):=by kernel_rfl
theorem obs0 (w:World)(os:OsState):(staticsOk [] (boot_heap w.params) (HF w.params) && namesBound RQ.prog (HF w.params) && gensDone (SF w os) && laidKept (boot_heap w.params) (HF w.params))=true:=by kernel_rfl
theorem obs1 (w:World)(os:OsState):(SQ (SF w os)).1=(openGood VQ []).1:=by kernel_rfl
theorem obs2 (w:World)(os:OsState):(SQ (SF w os)).2.1=(openGood VQ []).2.1:=by kernel_rfl
theorem obs3 (w:World)(os:OsState):(SQ (SF w os)).2.2.1=(openGood VQ []).2.2.1:=by kernel_rfl
theorem obs4 (w:World)(os:OsState):(SQ (SF w os)).2.2.2.1=(openGood VQ []).2.2.2.1:=by kernel_rfl
theorem obs5 (w:World)(os:OsState):(SQ (SF w os)).2.2.2.2.1=(openGood VQ []).2.2.2.2.1:=by kernel_rfl
theorem obs6 (w:World)(os:OsState):(SQ (SF w os)).2.2.2.2.2=(openGood VQ []).2.2.2.2.2:=by kernel_rfl
theorem obs7 (w:World):KA.map (HF w.params).get? =(KK w.params).map fun p=>some p.2:=by kernel_rfl
theorem left:LeftO RQ.prog VQ [] (fun s=>xlAt VQ [] s && recOk (RowW.records (OpenRow.toRowW RQ)) s) (fun s=>KA.map s.heap.get?) (fun w=>(KK w.params).map fun p=>some p.2) 5865:=by
 refine LeftO.of_pieces (H₀:=boot_heap) (H₁:=HF) (gs₀:= #[]) (gs₁:= #[]) (d₀:=boot_drawn) (d₁:={}) (k₀:=boot_toks) (k₁:=1169) (m₀:=11) (ann:=some (.ref 6)) (M:=12+(1+(1828+(1690+(1632+(699+(3))))))) opn (fun w=>by kernel_rfl) runs (by kernel_rfl) fun w=>funext fun os=>?_
 rw [←zmo]
 refine Prod.ext (obs0 w os) (Prod.ext ?_ (obs7 w))
 rw [PySem.W.Fast.te4187177175401517315]
 exact Prod.ext (obs1 w os) (Prod.ext (obs2 w os) (Prod.ext (obs3 w os) (Prod.ext (obs4 w os) (Prod.ext (obs5 w os) (obs6 w os)))))
theorem addrs:∀P,KA=(KK P).map (·.1):=fun P=>by kernel_rfl
theorem said:PySem.Challenge.rw_papervault_k43_bad_things.wellSaid=true:=by kernel_rfl
end Pv
namespace L2
open PySem PySem.Spec PyProof.Rows
abbrev Key:=Sum Int Str
def zeH:Key→Value→Bool
 | .inl k,v=>Value.isInt k v
 | .inr x,v=>Value.isStrOf x v
def keyH (w:World):Key→Int
 | .inl k=>hashInt k
 | .inr x=>hashStr w x
theorem zaf:∀{k:Key} {v:Value},zeH k v=true→(∃i t,k=Sum.inl i∧v=Value.int i t)∨(∃x t,k=Sum.inr x∧v=Value.str x t)
 | .inl i,v,h=>by
  obtain ⟨t,e⟩:=Value.isInt_shape (k:=i) (v:=v) h
  exact .inl ⟨i,t,rfl,e⟩
 | .inr x,v,h=>by
  obtain ⟨t,e⟩:=Value.isStrOf_shape (x:=x) (v:=v) h
  exact .inr ⟨x,t,rfl,e⟩
theorem zhG (i:Int)(t:Tok):zeH (.inl i) (.int i t)=true:=by simp [zeH,Value.isInt]
theorem zhM (x:Str)(t:Tok):zeH (.inr x) (.str x t)=true:=by simp [zeH,Value.isStrOf]
theorem zll (a b:Int):decide ((Sum.inl a:Key)=Sum.inl b)=(a==b):=by
 by_cases e:a=b
 ·subst e;simp
 ·have h:¬(Sum.inl a:Key)=Sum.inl b:=fun q=>e (Sum.inl.inj q)
  rw [decide_eq_false h]
  exact (beq_eq_false_iff_ne.mpr e).symm
theorem zlw (a b:Str):decide ((Sum.inr a:Key)=Sum.inr b)=decide (a=b):=by
 by_cases e:a=b
 ·subst e;simp
 ·have h:¬(Sum.inr a:Key)=Sum.inr b:=fun q=>e (Sum.inr.inj q)
  rw [decide_eq_false h,decide_eq_false e]
theorem zlj (a:Int)(b:Str):decide ((Sum.inl a:Key)=Sum.inr b)=false:=decide_eq_false (fun q=>nomatch q)
theorem zlB (a:Str)(b:Int):decide ((Sum.inr a:Key)=Sum.inl b)=false:=decide_eq_false (fun q=>nomatch q)
def zay (prog:Program)(w:World):PySem.KeyKind prog w Key where
 is:=zeH
 hash:=keyH w
 inj:=fun v a b ha hb=>by
  rcases zaf ha with ⟨i,t,rfl,rfl⟩ | ⟨x,t,rfl,rfl⟩
  ·rcases zaf hb with ⟨j,u,rfl,e⟩ | ⟨y,u,rfl,e⟩
   ·injection e with e1 _;rw [e1]
   ·exact nomatch e
  ·rcases zaf hb with ⟨j,u,rfl,e⟩ | ⟨y,u,rfl,e⟩
   ·exact nomatch e
   ·injection e with e1 _;rw [e1]
 byValue:=fun k v h=>by
  rcases zaf h with ⟨i,t,rfl,rfl⟩ | ⟨x,t,rfl,rfl⟩ <;> rfl
 pyHash:=fun hv h=>by
  rcases zaf hv with ⟨i,t,rfl,rfl⟩ | ⟨x,t,rfl,rfl⟩
  ·exact wpAny_pyHash_int h
  ·exact wpAny_pyHash_str h
 eqBool:=fun hu hv h=>by
  rcases zaf hu with ⟨i,t,rfl,rfl⟩ | ⟨x,t,rfl,rfl⟩
  ·rcases zaf hv with ⟨j,u,rfl,rfl⟩ | ⟨y,u,rfl,rfl⟩
   ·rw [zll] at h;exact wpAny_eqBool_int h
   ·rw [zlj] at h;exact SeqAt.EqAt.int_str i t y u _ _ _ _ h
  ·rcases zaf hv with ⟨j,u,rfl,rfl⟩ | ⟨y,u,rfl,rfl⟩
   ·rw [zlB] at h;exact SeqAt.EqAt.str_int x t j u _ _ _ _ h
   ·rw [zlw] at h;exact wpAny_eqBool_str h
 «strs»:=fun k x t v h=>by
  rcases zaf h with ⟨i,u,rfl,e⟩ | ⟨y,u,rfl,e⟩
  ·exact nomatch e
  ·injection e with e1 _
   subst e1
   cases v <;> rfl
theorem zfG (prog:Program)(w:World)(i:Int)(t:Tok):(zay prog w).is (.inl i) (.int i t)=true:=zhG i t
theorem zfy (prog:Program)(w:World)(x:Str)(t:Tok):(zay prog w).is (.inr x) (.str x t)=true:=zhM x t
end L2
namespace L2
open PySem PySem.Spec PyProof.Rows
inductive V where
 | non | bl (b:Bool) | int (i:Int) | str (x:Str) | byt (b:Array UInt8) | flt (b:UInt64) | ref (a:Addr) | ty (n:String)
 deriving DecidableEq
def RelV:V→Value→Prop
 | .non,u=>u=Value.none
 | .bl b,u=>u=Value.bool b
 | .int i,u=>∃t,u=Value.int i t
 | .str x,u=>∃t,u=Value.str x t
 | .byt b,u=>∃t,u=Value.bytes b t
 | .flt b,u=>∃t,u=Value.float b t
 | .ref a,u=>u=Value.ref a
 | .ty n,u=>u=Value.type n
abbrev Vals:List V→List Value→Prop:=Paired RelV
theorem Vals.length {xs:List V}{us:List Value}(r:Vals xs us):xs.length=us.length:=Paired.length r
theorem Vals.get:∀{xs:List V} {us:List Value} {i:Nat} {x:V},Vals xs us→xs[i]? =some x→∃u,us[i]? =some u∧RelV x u
 | _,_,_,_,.nil,e=>by simp at e
 | _,_,0,_,.cons r _,e=>by simp at e;subst e;exact ⟨_,rfl,r⟩
 | _,_,i+1,x,.cons _ t,e=>by
  obtain ⟨u,h1,h2⟩:=Vals.get (i:=i) (x:=x) t (by simpa using e)
  exact ⟨u,by simpa using h1,h2⟩
theorem Vals.set {x:V}{u:Value}(r:RelV x u):∀{xs:List V} {us:List Value} (i:Nat),Vals xs us→Vals (xs.set i x) (us.set i u)
 | _,_,_,.nil=>.nil
 | _,_,0,.cons _ t=>.cons r t
 | _,_,i+1,.cons q t=>.cons q (Vals.set r i t)
theorem Vals.append:∀{xs ys:List V} {us ws:List Value},Vals xs us→Vals ys ws→Vals (xs++ys) (us++ws)
 | _,_,_,_,.nil,s=>s
 | _,_,_,_,.cons r t,s=>.cons r (Vals.append t s)
theorem Vals.take:∀{xs:List V} {us:List Value} (n:Nat),Vals xs us→Vals (xs.take n) (us.take n)
 | _,_,0,_=>.nil
 | _,_,_+1,.nil=>.nil
 | _,_,n+1,.cons r t=>.cons r (Vals.take n t)
theorem Vals.drop:∀{xs:List V} {us:List Value} (n:Nat),Vals xs us→Vals (xs.drop n) (us.drop n)
 | _,_,0,r=>r
 | _,_,_+1,.nil=>.nil
 | _,_,n+1,.cons _ t=>Vals.drop n t
theorem Vals.none_of:∀{xs:List V} {us:List Value} {i:Nat},Vals xs us→xs[i]? =none→us[i]? =none:=fun {xs us i} r e=>by
 have h1:=r.length
 have h2:xs.length≤i:=List.getElem?_eq_none_iff.mp e
 exact List.getElem?_eq_none_iff.mpr (by omega)
def RelO:Option V→Option Value→Prop
 | some v,some u=>RelV v u
 | none,none=>True
 | _,_=>False
def KV {κ:Type}:List (κ ×V)→List (κ ×Value)→Prop:=Paired fun (p:κ ×V) (q:κ ×Value)=>p.1=q.1∧RelV p.2 q.2
def kV:Key→V
 | .inl i=>.int i
 | .inr x=>.str x
inductive HO where
 | lst (xs:List V)
 | tup (xs:List V)
 | dK (kvs:List (Key ×V)) | dT (kvs:List (List Key ×V))
 | set (S:Int→Bool) (n:Nat)
 | ins (C dx:Addr) (fs:List (Str ×V))
 | own (x:Addr)
 | xd (fs:List (Str ×V))
 | met (f x:Addr)
 | rng (lo hi:Int)
 | frz (o:Obj) (u:HO)
 | tbl (ps:Array Value)
 | ext (φ:Heap→Prop)
abbrev Hp:=Addr→Option HO
def upd (H:Hp)(a:Addr)(o:HO):Hp:=fun b=>if b=a then some o else H b
theorem ze {H:Hp}{a:Addr}{o:HO}:upd H a o a=some o:=by unfold upd;rw [if_pos rfl]
theorem zj {H:Hp}{a b:Addr}{o:HO}(h:b≠a):upd H a o b=H b:=by unfold upd;rw [if_neg h]
theorem zgT {H:Hp}{a:Addr}{o u:HO}:upd (upd H a o) a u=upd H a u:=by
 funext b;unfold upd;split <;> rfl
theorem zaS {H:Hp}{a b:Addr}{o u:HO}(h:H a=some o)(h':H b=some u)(d:o≠u):a≠b:=by
 intro e;subst e;rw [h] at h';exact d (Option.some.inj h')
theorem zh {H:Hp}{a b:Addr}{o:HO}(h:H a=some o)(h':H b=none):a≠b:=by
 intro e;subst e;rw [h] at h';cases h'
section
variable (P:Program)(w:World)
def zY (H:Hp)(h:Heap)(a:Addr):HO→Prop
 | .lst xs=>xs.length≤sizeLine∧∃(its:List Value) (n:Nat),Vals xs its∧h.get? a=some {cls:=.type "list",data:=.seq its.toArray n}
 | .tup xs=>xs.length≤sizeLine∧∃its:List Value,Vals xs its∧IsTup h a its.toArray
 | .dK kvs=>kvs.length≤sizeLine∧(a==sysModules)=false∧∃vs,KV kvs vs∧h.DictOf (zay P w) a vs
 | .dT kvs=>kvs.length≤sizeLine∧(a==sysModules)=false∧∃xs:List (List Key ×Addr ×Value),
   Paired (fun (p:List Key ×V) (q:List Key ×Addr ×Value)=>p.1=q.1∧H q.2.1=some (.tup (p.1.map kV))∧RelV p.2 q.2.2) kvs xs∧
   ∃o es ep,h.get? a=some o∧o.ExactDict∧o.data=.dict es ep∧es.toList=xs.map (entryOfKey (tupleKind (zay P w)))∧(xs.map (·.1)).Nodup
 | .set S n=>h.SetOf (intKind P w) a S n
 | .ins C dx fs=>H dx=some (.own a)∧fs.length≤1000∧dx≠a∧h.get? a=some (PySem.W.instObj C dx)∧
   ∃mA,h.Ns1 dx mA∧(∀f,RelO (fs.lookup f) (mA f))∧PySem.Within mA (fs.map (·.1))
 | .own _=>∃o,h.get? a=some o
 | .xd fs=>∃mA,h.Ns1 a mA∧∀f,RelO (fs.lookup f) (mA f)
 | .rng lo hi=>∃t u v,h.get? a=some {cls:=.type "range",data:=.fields #[.int lo t,.int hi u,.int 1 v]}
 | .frz o u=>h.get? a=some o∧zY H h a u
 | .tbl ps=>h.get? a=some {cls:=.none,data:=.fields ps}
 | .met f x=>h.get? a=some (PySem.W.methodObj (.ref f) (.ref x))
 | .ext φ=>φ h∧(∃o,h.get? a=some o)∧∀h1 h2:Heap,φ h1→(∀o,h1.get? a=some o→h2.get? a=some o)→φ h2
def HOk (H:Hp)(h:Heap):Prop:=∀a o,H a=some o→zY P w H h a o
end
section
variable {P:Program}{w:World}{H H':Hp}{h h':Heap}{a:Addr}{o:HO}
theorem zY.lt (x:zY P w H h a o):a < h.objs.size:=by
 cases o with
 | lst xs=>obtain ⟨_,_,_,_,e⟩:=x;exact Heap.lt_size e
 | tup xs=>obtain ⟨_,_,_,p⟩:=x;exact p.lt
 | dK kvs=>obtain ⟨_,_,_,_,o,_,_,e,_⟩:=x;exact Heap.lt_size e
 | dT kvs=>obtain ⟨_,_,_,_,o,_,_,e,_⟩:=x;exact Heap.lt_size e
 | set S n=>obtain ⟨o,_,_,_,e,_⟩:=x;exact Heap.lt_size e
 | ins C dx fs=>obtain ⟨_,_,_,e,_⟩:=x;exact Heap.lt_size e
 | own y=>obtain ⟨_,e⟩:=x;exact Heap.lt_size e
 | xd fs=>obtain ⟨_,⟨_,_,_,e,_⟩,_⟩:=x;exact Heap.lt_size e
 | rng lo hi=>obtain ⟨_,_,_,e⟩:=x;exact Heap.lt_size e
 | frz ob u=>obtain ⟨e,_⟩:=x;exact Heap.lt_size e
 | tbl ps=>exact Heap.lt_size (show h.get? a=some _ from x)
 | met f y=>exact Heap.lt_size (show h.get? a=some _ from x)
 | ext φ=>obtain ⟨_,⟨_,e⟩,_⟩:=x;exact Heap.lt_size e
theorem Paired.mapP {α β:Type}{F G:α→β→Prop}:∀{l₁:List α} {l₂:List β},Paired F l₁ l₂→(∀a b,F a b→G a b)→Paired G l₁ l₂
 | _,_,.nil,_=>.nil
 | _,_,.cons r t,f=>.cons (f _ _ r) (Paired.mapP t f)
theorem zY.stay (x:zY P w H h a o)(k:∀b u,(b=a∨H b=some (.own a))→h.get? b=some u→h'.get? b=some u)
  (ho:∀b,H b=some (.own a)→H' b=some (.own a)) (ht:∀b xs,H b=some (.tup xs)→H' b=some (.tup xs)):zY P w H' h' a o:=by
 induction o with
 | lst xs=>obtain ⟨z,its,n,r,e⟩:=x;exact ⟨z,its,n,r,k _ _ (.inl rfl) e⟩
 | tup xs=>obtain ⟨z,its,r,ob,e,c⟩:=x;exact ⟨z,its,r,ob,k _ _ (.inl rfl) e,c⟩
 | dK kvs=>obtain ⟨z,y,vs,r,ob,es,ep,e,c⟩:=x;exact ⟨z,y,vs,r,ob,es,ep,k _ _ (.inl rfl) e,c⟩
 | dT kvs=>
  obtain ⟨z,y,xs,r,ob,es,ep,e,c⟩:=x
  exact ⟨z,y,xs,Paired.mapP r fun p q z=>⟨z.1,ht _ _ z.2.1,z.2.2⟩,ob,es,ep,k _ _ (.inl rfl) e,c⟩
 | set S n=>obtain ⟨ob,es,ep,t,e,c⟩:=x;exact ⟨ob,es,ep,t,k _ _ (.inl rfl) e,c⟩
 | ins C dx fs=>
  obtain ⟨d,z,ne,e,mA,⟨od,es,ep,e2,c⟩,r⟩:=x
  exact ⟨ho _ d,z,ne,k _ _ (.inl rfl) e,mA,⟨od,es,ep,k _ _ (.inr d) e2,c⟩,r⟩
 | own y=>obtain ⟨ob,e⟩:=x;exact ⟨ob,k _ _ (.inl rfl) e⟩
 | xd fs=>obtain ⟨mA,⟨od,es,ep,e,c⟩,r⟩:=x;exact ⟨mA,⟨od,es,ep,k _ _ (.inl rfl) e,c⟩,r⟩
 | rng lo hi=>obtain ⟨t,u,v,e⟩:=x;exact ⟨t,u,v,k _ _ (.inl rfl) e⟩
 | frz ob u ih=>obtain ⟨e,q⟩:=x;exact ⟨k _ _ (.inl rfl) e,ih q⟩
 | tbl ps=>
  have e:h.get? a=some {cls:=.none,data:=.fields ps}:=x
  show h'.get? a=some {cls:=.none,data:=.fields ps}
  exact k a _ (.inl rfl) e
 | met f y=>
  have e:h.get? a=some (PySem.W.methodObj (.ref f) (.ref y)):=x
  show h'.get? a=some (PySem.W.methodObj (.ref f) (.ref y))
  exact k a _ (.inl rfl) e
 | ext φ=>obtain ⟨p,⟨o,e⟩,st⟩:=x;exact ⟨st _ _ p fun o q=>k _ _ (.inl rfl) q,⟨o,k _ _ (.inl rfl) e⟩,st⟩
theorem HOk.lt (x:HOk P w H h)(e:H a=some o):a < h.objs.size:=(x a o e).lt
theorem HOk.fresh (x:HOk P w H h)(e:h.objs.size≤a):H a=none:=by
 cases q:H a with
 | none=>rfl
 | some u=>exact absurd (Nat.lt_of_lt_of_le (x.lt q) e) (Nat.lt_irrefl _)
theorem HOk.kept (x:HOk P w H h)(k:∀b u,h.get? b=some u→h'.get? b=some u):HOk P w H h':=fun a o e=>
 (x a o e).stay (fun b u _ q=>k b u q) (fun _ q=>q) fun _ _ q=>q
theorem HOk.laid (x:HOk P w H h)(k:∀b u,h.get? b=some u→h'.get? b=some u)(hp:h.objs.size≤a)(new:zY P w (upd H a o) h' a o):HOk P w (upd H a o) h':=fun b u e=>by
 have hn:=x.fresh hp
 by_cases hb:b=a
 ·subst hb;rw [ze] at e;cases e;exact new
 ·rw [zj hb] at e
  exact (x b u e).stay (fun c v _ q=>k c v q) (fun c q=>by rw [zj (zh q hn)];exact q) fun c xs q=>by rw [zj (zh q hn)];exact q
end
def Rd (H:Hp)(a:Addr)(u:HO):Prop:=H a=some u∨∃o,H a=some (.frz o u)
theorem Rd.of {H:Hp}{a:Addr}{u:HO}(h:H a=some u):Rd H a u:=.inl h
theorem Rd.ok {P:Program}{w:World}{H:Hp}{h:Heap}{a:Addr}{u:HO}(r:Rd H a u)(x:HOk P w H h):zY P w H h a u:=by
 rcases r with r | ⟨o,r⟩
 ·exact x a u r
 ·obtain ⟨_,q⟩:=x a _ r
  exact q
def Mut:Option HO→Prop
 | some (.lst _)=>True
 | some (.dK _)=>True
 | some (.dT _)=>True
 | some (.set _ _)=>True
 | some (.ins _ _ _)=>True
 | some (.ext _)=>True
 | _=>False
section
variable {P:Program}{w:World}{H:Hp}{h h':Heap}{x e:Addr}{o':HO}
theorem HOk.write (ok:HOk P w H h)(mu:Mut (H x))(he:e=x∨H e=some (.own x))(k:∀b u,b≠e→h.get? b=some u→h'.get? b=some u)(heo:∃u,h'.get? e=some u)
  (new:zY P w (upd H x o') h' x o'):HOk P w (upd H x o') h':=fun b u q=>by
 have nown:∀c y,H c=some (.own y)→c≠x:=fun c y r z=>by subst z;rw [r] at mu;exact mu
 have ntup:∀c xs,H c=some (.tup xs)→c≠x:=fun c xs r z=>by subst z;rw [r] at mu;exact mu
 by_cases hb:b=x
 ·subst hb;rw [ze] at q;cases q;exact new
 ·rw [zj hb] at q
  by_cases hbe:b=e
  ·have q':H b=some (.own x):=by
    rcases he with z | z
    ·exact absurd (hbe.trans z) hb
    ·rw [hbe];exact z
   rw [q] at q';cases q'
   obtain ⟨v,hv⟩:=heo
   exact ⟨v,by rw [hbe];exact hv⟩
  ·refine (ok b u q).stay (fun c v hc r=>k c v ?_ r) (fun c r=>by rw [zj (nown c b r)];exact r) fun c xs r=>by rw [zj (ntup c xs r)];exact r
   rcases hc with rfl | hc
   ·exact hbe
   ·rintro rfl
    rcases he with z | z
    ·exact nown c b hc z
    ·rw [hc] at z;cases z;exact hb rfl
end
structure Un (fs ex:List Addr)(H H':Hp)(h h':Heap):Prop where
 keep:∀b o,h.get? b=some o→H b=none→b∉fs→b∉ex→h'.get? b=some o
 slot:∀b o,h.get? b=some o→H b=none→b∈fs→b∉ex→∃sl,h'.get? b=some {o with slots:=sl}
 free:∀b o,h.get? b=some o→H b=none→b∉ex→H' b=none
 there:∀b o,h.get? b=some o→b∉ex→∃o',h'.get? b=some o'
 tups:∀b xs,H b=some (.tup xs)→H' b=some (.tup xs)
 frzs:∀b o u,H b=some (.frz o u)→H' b=some (.frz o u)
 tbls:∀b ps,H b=some (.tbl ps)→∃more,H' b=some (.tbl (ps++more))
section
variable {fs fs' ex ex':List Addr}{H H1 H2:Hp}{h h1 h2 h':Heap}{a x e:Addr}{o:HO}
theorem Un.any (u:Un fs ex H H1 h h1){b:Addr}{ob:Obj}(q:h.get? b=some ob)(n:H b=none)(hx:b∉ex):∃sl,h1.get? b=some {ob with slots:=sl}:=by
 by_cases hb:b∈fs
 ·exact u.slot b ob q n hb hx
 ·exact ⟨ob.slots,u.keep b ob q n hb hx⟩
theorem Un.trans (a:Un fs ex H H1 h h1)(b:Un fs ex H1 H2 h1 h2):Un fs ex H H2 h h2 where
 keep:=fun c ob q n hc hx=>b.keep c ob (a.keep c ob q n hc hx) (a.free c ob q n hx) hc hx
 slot:=fun c ob q n hc hx=>by
  obtain ⟨sl,e1⟩:=a.slot c ob q n hc hx
  obtain ⟨sl',e2⟩:=b.slot c _ e1 (a.free c ob q n hx) hc hx
  exact ⟨sl',e2⟩
 free:=fun c ob q n hx=>by
  obtain ⟨o',e1⟩:=a.there c ob q hx
  exact b.free c o' e1 (a.free c ob q n hx) hx
 there:=fun c ob q hx=>by
  obtain ⟨o',e1⟩:=a.there c ob q hx
  exact b.there c o' e1 hx
 tups:=fun c xs q=>b.tups c xs (a.tups c xs q)
 frzs:=fun c ob xs q=>b.frzs c ob xs (a.frzs c ob xs q)
 tbls:=fun c ps q=>by
  obtain ⟨m1,e1⟩:=a.tbls c ps q
  obtain ⟨m2,e2⟩:=b.tbls c _ e1
  exact ⟨m1++m2,by rw [e2,Array.append_assoc]⟩
theorem Un.kept (k:∀b u,h.get? b=some u→h'.get? b=some u):Un fs ex H H h h':=
 ⟨fun b ob q _ _ _=>k b ob q,fun b ob q _ _ _=>⟨ob.slots,k b ob q⟩,fun _ _ _ n _=>n,fun b ob q _=>⟨ob,k b ob q⟩,fun _ _ q=>q,fun _ _ _ q=>q,fun _ ps q=>⟨#[],by rw [q];simp⟩⟩
theorem Un.refl:Un fs ex H H h h:=Un.kept fun _ _ q=>q
theorem Un.laid (k:∀b u,h.get? b=some u→h'.get? b=some u)(hp:h.objs.size≤a)(hn:H a=none):Un fs ex H (upd H a o) h h' where
 keep:=fun b u q _ _ _=>k b u q
 slot:=fun b u q _ _ _=>⟨u.slots,k b u q⟩
 free:=fun b u q n _=>by rw [zj (Nat.ne_of_lt (Nat.lt_of_lt_of_le (Heap.lt_size q) hp))];exact n
 there:=fun b u q _=>⟨u,k b u q⟩
 tups:=fun b xs q=>by rw [zj (zh q hn)];exact q
 frzs:=fun b u xs q=>by rw [zj (zh q hn)];exact q
 tbls:=fun b ps q=>⟨#[],by rw [zj (zh q hn),q];simp⟩
theorem Un.write (mu:Mut (H x))(he:e=x∨H e=some (.own x))(k:∀b u,b≠e→h.get? b=some u→h'.get? b=some u)(heo:∃u,h'.get? e=some u):Un fs ex H (upd H x o) h h':=by
 have hx:∀b,H b=none→b≠x:=fun b n z=>by subst z;rw [n] at mu;exact mu
 have hb:∀b,H b=none→b≠e:=fun b n z=>by
  subst z
  rcases he with r | r
  ·exact hx b n r
  ·rw [n] at r;cases r
 have hm:∀b u,H b=some u→¬Mut (some u)→b≠x:=fun b u q nm z=>by subst z;rw [q] at mu;exact nm mu
 refine ⟨fun b u q n _ _=>k b u (hb b n) q,fun b u q n _ _=>⟨u.slots,k b u (hb b n) q⟩,fun b u q n _=>by rw [zj (hx b n)];exact n,fun b u q _=>?_,
  fun b xs q=>by rw [zj (hm b _ q fun z=>z)];exact q,fun b u xs q=>by rw [zj (hm b _ q fun z=>z)];exact q,fun b ps q=>⟨#[],by rw [zj (hm b _ q fun z=>z),q];simp⟩⟩
 by_cases hbe:b=e
 ·subst hbe;exact heo
 ·exact ⟨u,k b u hbe q⟩
theorem Un.mono (u:Un fs ex H H1 h h1)(hs:∀b∈fs,b∈fs')(hx:∀b∈ex,b∈ex'):Un fs' ex' H H1 h h1:=
 ⟨fun b ob q n hb he=>u.keep b ob q n (fun z=>hb (hs b z)) fun z=>he (hx b z),fun _ _ q n _ he=>u.any q n fun z=>he (hx _ z),fun b ob q n he=>u.free b ob q n fun z=>he (hx b z),fun b ob q he=>u.there b ob q fun z=>he (hx b z),u.tups,u.frzs,u.tbls⟩
end
def trk (h:Heap)(H:Hp):List Addr:=(List.range h.objs.size).filter fun a=>(H a).isSome
def hidT (h:Heap)(H:Hp):Heap:=PySem.W.hideAll h (trk h H)
theorem zhu (h:Heap)(H:Hp):(hidT h H).objs.size=h.objs.size:=PySem.W.hideAll_size _ _
theorem ziG {h:Heap}{H:Hp}{b:Addr}{o:Obj}(e:h.get? b=some o)(n:H b=none):(hidT h H).get? b=some o:=
 PySem.W.hideAll_get _ e fun hm=>by
  have q:(H b).isSome=true:=(List.mem_filter.mp hm).2
  rw [n] at q;simp at q
theorem zkp {h:Heap}{H:Hp}{b:Addr}{o:Obj}(e:(hidT h H).get? b=some o):h.get? b=some o∧H b=none:=by
 have e':h.get? b=some o:=PySem.W.of_hideAll (trk h H) e
 refine ⟨e',?_⟩
 cases q:H b with
 | none=>rfl
 | some x=>
  have hm:b∈trk h H:=List.mem_filter.mpr ⟨List.mem_range.mpr (Heap.lt_size e'),by simp [q]⟩
  have z:(hidT h H).get? b=none:=PySem.W.hideAll_none (trk h H) hm
  rw [z] at e;cases e
def zjM (g h:Heap)(L:Addr):List (Addr ×Obj):=(List.range h.objs.size).filterMap fun a=>if a=L∨(g.get? a).isSome=true then none else (h.get? a).map fun o=>(a,o)
def rest (g h:Heap)(L d:Addr):List (Addr ×Obj):=(zjM g h L).filter fun p=>decide (p.1≠d)
end L2
namespace L2
open PySem PySem.Spec PyProof.Rows
structure Mod (K:PySem.W.Frag)(mg:Str→Option Value)(base:Heap):Prop where
 kin:K.In base
 glob:base.Ns mainGlobals mg
 blt:∃mb,base.Ns builtinsNs mb∧∀x:Str,x≠ "__name__" →mb x=bootBuiltins x
 nolimit:base.NoLimit
structure Cx where
 prog:Program
 w:World
 K:PySem.W.Frag
 mg:Str→Option Value
 base:Heap
 A:Around
 N:List Str
 s₀:Shared
 H₀:Hp
 env:Env
 outer:List Env
 stack:List Env
 ex:List Addr
 fn:Str→Bool
 calm:Bool
 pn:List (Addr ×Obj)
 xe:Value→Shared→Prop
def frs (l:List Env):List Addr:=l.filterMap (·.frame)
abbrev Cx.fs (X:Cx):List Addr:=frs X.outer
def Vis (sc:Scope)(x:Str):Prop:=sc.names.lookup x=some .local∨sc.names.lookup x=some .cell∨sc.names.lookup x=some .free
def Loc (sc:Scope)(x:Str):Prop:=sc.names.lookup x=some .local∨sc.names.lookup x=some .cell
def Look (env:Env)(h:Heap)(m:Str→Option Value)(x:Str)(u:Value):Prop:=
 (env.kindOf x=some .local∧m x=some u)∨((env.kindOf x=some .cell∨env.kindOf x=some .free)∧∃c,env.cells.lookup x=some c∧h.IsCell c (some u))
structure Cx.Ok (X:Cx):Prop where
 mod:Mod X.K X.mg X.base
 kind:X.env.scope.kind=.function
 glob:X.env.globals=mainGlobals
 blt:X.env.builtins=builtinsNs
 above:X.s₀.heap.objs.size≤X.env.locals
 inj:∀x y c,X.env.cells.lookup x=some c→X.env.cells.lookup y=some c→x=y
 has:∀x,(X.env.kindOf x=some .cell∨X.env.kindOf x=some .free)→∃c,X.env.cells.lookup x=some c
 cab:∀x c,X.fn x=true→X.env.cells.lookup x=some c→X.s₀.heap.objs.size≤c
 hd:X.calm=true→X.A.handled=none
 frames:X.A.frames=some X.stack
 stk:X.stack=X.outer∨(X.stack=X.env::X.outer∧X.env.frame=some X.env.locals)
 exf:∀b∈X.ex,b≠X.env.locals∧∀x c,X.env.cells.lookup x=some c→c≠b
 bs:∀b o,X.base.get? b=some o→X.s₀.heap.get? b=some o∧X.H₀ b=none
 bsz:X.base.objs.size≤X.s₀.heap.objs.size
 noex:∀b o,X.base.get? b=some o→b∉X.ex
 exfs:∀b∈X.ex,b∉X.fs
 funs:X.s₀.heap.FunFrames X.base X.outer
 frf:∀b∈X.fs,X.H₀ b=none
structure Inv (X:Cx)(pins:List (Addr ×Obj))(σ:List (Option V))(H:Hp)(s:Shared):Prop where
 ok:X.Ok
 os:s.os=X.s₀.os
 bare:AllBare s.gens
 base:Un X.fs X.ex X.H₀ H X.s₀.heap s.heap
 loc:∃m,s.heap.Ns X.env.locals m∧∀(i:Nat) (x:Str) (v:V),X.N[i]? =some x→σ[i]? =some (some v)→Vis X.env.scope x→∃u,RelV v u∧Look X.env s.heap m x u
 cell:∀x c,X.env.cells.lookup x=some c→∃v,s.heap.IsCell c v
 free:H X.env.locals=none
 freeC:∀x c,X.env.cells.lookup x=some c→H c=none
 pin:∀p∈X.pn++pins,s.heap.get? p.1=some p.2∧H p.1=none∧p.1≠X.env.locals∧p.1∉X.fs∧∀v,p.2.data≠ .cell v
 hok:HOk X.prog X.w H s.heap
 len:σ.length=X.N.length
section
variable {X:Cx}{pins:List (Addr ×Obj)}{σ:List (Option V)}{H H':Hp}{s:Shared}{h':Heap}
theorem Cx.Ok.nofr (ok:X.Ok){b:Addr}{o:Obj}(e:X.base.get? b=some o):b∉X.fs:=fun hb=>by
 have:=(ok.funs.mem hb).1
 rw [e] at this;cases this
theorem Inv.bs (I:Inv X pins σ H s):∀b o,X.base.get? b=some o→s.heap.get? b=some o∧H b=none:=fun b o e=>
 ⟨I.base.keep b o (I.ok.bs b o e).1 (I.ok.bs b o e).2 (I.ok.nofr e) (I.ok.noex b o e),I.base.free b o (I.ok.bs b o e).1 (I.ok.bs b o e).2 (I.ok.noex b o e)⟩
theorem Inv.bk (I:Inv X pins σ H s):∀b o,X.base.get? b=some o→s.heap.get? b=some o:=fun b o e=>(I.bs b o e).1
theorem Inv.mod (I:Inv X pins σ H s):Mod X.K X.mg X.base:=I.ok.mod
theorem Inv.kIn (I:Inv X pins σ H s):X.K.In s.heap:=I.ok.mod.kin.keeps I.bk
theorem Inv.nolimit (I:Inv X pins σ H s):s.heap.NoLimit:=I.ok.mod.nolimit.keeps I.bk
theorem Inv.fr (I:Inv X pins σ H s):∃m,Fr X.base X.env.locals s.heap m:=
 let ⟨m,hn,_⟩:=I.loc
 ⟨m,hn,I.bk,Nat.le_trans I.ok.bsz I.ok.above⟩
theorem Inv.lt (I:Inv X pins σ H s):X.env.locals < s.heap.objs.size:=let ⟨_,hn,_⟩:=I.loc;hn.lt
theorem Inv.sz (I:Inv X pins σ H s):X.s₀.heap.objs.size≤s.heap.objs.size:=Nat.le_trans I.ok.above (Nat.le_of_lt I.lt)
theorem Inv.nofs (I:Inv X pins σ H s){a:Addr}(h:s.heap.objs.size≤a):a∉X.fs:=fun hb=>by
 obtain ⟨_,o,ho,_⟩:=I.ok.funs.mem hb
 exact absurd (Nat.lt_of_lt_of_le (Heap.lt_size ho) (Nat.le_trans I.sz h)) (Nat.lt_irrefl _)
theorem Inv.cne (I:Inv X pins σ H s):∀x c,X.env.cells.lookup x=some c→c≠X.env.locals:=fun x c e z=>by
 obtain ⟨v,o,ho,hd⟩:=I.cell x c e
 obtain ⟨m,⟨o',es,ep,ho',hd',_⟩,_⟩:=I.loc
 rw [z,ho'] at ho;cases ho;rw [hd'] at hd;cases hd
theorem Inv.funs (I:Inv X pins σ H s):s.heap.FunFrames X.base X.outer:=by
 have all:∀(l:List Env),(∀b∈frs l,b∈X.fs)→X.s₀.heap.FunFrames X.base l→s.heap.FunFrames X.base l:=by
  intro l
  induction l with
  | nil=>intro _ _;trivial
  | cons env r ih=>
   intro hs hl
   obtain ⟨hk,⟨L,o,hf,hn,ho,hd⟩,hr⟩:=hl
   have hL:L∈X.fs:=hs L (by unfold frs;rw [List.filterMap_cons,hf];exact List.mem_cons_self)
   obtain ⟨sl,e⟩:=I.base.slot L o ho (I.ok.frf L hL) hL fun z=>I.ok.exfs L z hL
   exact ⟨hk,⟨L,_,hf,hn,e,hd⟩,ih (fun b hb=>hs b (by unfold frs;rw [List.filterMap_cons,hf];exact List.mem_cons_of_mem _ hb)) hr⟩
 exact all X.outer (fun _ hb=>hb) I.ok.funs
theorem Inv.stack (I:Inv X pins σ H s):s.heap.FunFrames X.base X.stack:=by
 rcases I.ok.stk with e | ⟨e,hf⟩
 ·rw [e];exact I.funs
 ·rw [e]
  obtain ⟨m,hn,_⟩:=I.loc
  refine .cons (by rw [I.ok.kind];decide) hf hn ?_ I.funs
  exact Heap.get?_none_of_le (Nat.le_trans I.ok.bsz I.ok.above)
theorem Inv.stkSub (I:Inv X pins σ H s):∀b∈frs X.stack,b∈X.env.locals::X.fs:=fun b hb=>by
 rcases I.ok.stk with e | ⟨e,hf⟩
 ·rw [e] at hb;exact List.mem_cons_of_mem _ hb
 ·rw [e] at hb
  unfold frs at hb
  rw [List.filterMap_cons,hf] at hb
  exact hb
theorem Inv.stkFree (I:Inv X pins σ H s):∀b∈frs X.stack,H b=none:=fun b hb=>by
 rcases List.mem_cons.mp (I.stkSub b hb) with e | hb
 ·rw [e];exact I.free
 ·obtain ⟨_,o,ho,_⟩:=I.ok.funs.mem hb
  exact I.base.free b o ho (I.ok.frf b hb) fun z=>I.ok.exfs b z hb
theorem Inv.step {g':Array GenState}{t':Nat}{d':Drawn}{ch:List Addr}(I:Inv X pins σ H s)
  (hch:∀b∈ch,(b∈X.ex∨X.s₀.heap.objs.size≤b)∧b≠X.env.locals∧(∀x c,X.env.cells.lookup x=some c→c≠b)∧∀p∈X.pn++pins,p.1≠b)
  (keep:∀b o,b≠X.env.locals→b∉X.fs→b∉ch→s.heap.get? b=some o→H b=none→h'.get? b=some o)
  (slot:∀b o,b≠X.env.locals→b∈X.fs→b∉ch→s.heap.get? b=some o→H b=none→∃sl,h'.get? b=some {o with slots:=sl}) (free:∀b o,b∉ch→s.heap.get? b=some o→H b=none→H' b=none)
  (there:∀b o,b∉ch→s.heap.get? b=some o→∃o',h'.get? b=some o')
  (tups:∀b xs,H b=some (.tup xs)→H' b=some (.tup xs)) (frzs:∀b o u,H b=some (.frz o u)→H' b=some (.frz o u)) (tbls:∀b ps,H b=some (.tbl ps)→∃more,H' b=some (.tbl (ps++more)))
  (ns:∀m,s.heap.Ns X.env.locals m→h'.Ns X.env.locals m) (hok:HOk X.prog X.w H' h') (hg:AllBare g'):
  Inv X pins σ H' {s with heap:=h',gens:=g',drawn:=d',toks:=t'}:=by
 have neL:∀b o,X.s₀.heap.get? b=some o→b≠X.env.locals:=fun b o e=>Nat.ne_of_lt (Nat.lt_of_lt_of_le (Heap.lt_size e) I.ok.above)
 have neC:∀b o,X.s₀.heap.get? b=some o→b∉X.ex→b∉ch:=fun b o e hx hb=>by
  rcases (hch b hb).1 with z | z
  ·exact hx z
  ·exact absurd (Nat.lt_of_lt_of_le (Heap.lt_size e) z) (Nat.lt_irrefl _)
 have cellK:∀x c,X.env.cells.lookup x=some c→∀v,s.heap.IsCell c v→h'.IsCell c v:=fun x c e v ⟨o,ho,hd⟩=>by
  have nch:c∉ch:=fun z=>(hch c z).2.2.1 x c e rfl
  by_cases hc:c∈X.fs
  ·obtain ⟨sl,q⟩:=slot c o (I.cne x c e) hc nch ho (I.freeC x c e)
   exact ⟨_,q,hd⟩
  ·exact ⟨o,keep c o (I.cne x c e) hc nch ho (I.freeC x c e),hd⟩
 refine ⟨I.ok,I.os,hg,⟨fun b o e n hb hx=>?_,fun b o e n hb hx=>?_,fun b o e n hx=>?_,fun b o e hx=>?_,fun b xs e=>tups b xs (I.base.tups b xs e),fun b o xs e=>frzs b o xs (I.base.frzs b o xs e),fun b ps e=>?_⟩,?_,fun x c e=>?_,?_,fun x c e=>?_,fun p hp=>?_,hok,I.len⟩
 ·exact keep b o (neL b o e) hb (neC b o e hx) (I.base.keep b o e n hb hx) (I.base.free b o e n hx)
 ·obtain ⟨sl,e1⟩:=I.base.slot b o e n hb hx
  obtain ⟨sl',e2⟩:=slot b _ (neL b o e) hb (neC b o e hx) e1 (I.base.free b o e n hx)
  exact ⟨sl',e2⟩
 ·obtain ⟨o',e1⟩:=I.base.there b o e hx
  exact free b o' (neC b o e hx) e1 (I.base.free b o e n hx)
 ·obtain ⟨o',e1⟩:=I.base.there b o e hx
  exact there b o' (neC b o e hx) e1
 ·obtain ⟨m1,e1⟩:=I.base.tbls b ps e
  obtain ⟨m2,e2⟩:=tbls b _ e1
  exact ⟨m1++m2,by rw [e2,Array.append_assoc]⟩
 ·obtain ⟨m,hn,hl⟩:=I.loc
  refine ⟨m,ns m hn,fun i x v e1 e2 e3=>?_⟩
  obtain ⟨u,r,l⟩:=hl i x v e1 e2 e3
  refine ⟨u,r,?_⟩
  rcases l with l | ⟨k,c,e,z⟩
  ·exact .inl l
  ·exact .inr ⟨k,c,e,cellK x c e _ z⟩
 ·obtain ⟨v,z⟩:=I.cell x c e
  exact ⟨v,cellK x c e v z⟩
 ·obtain ⟨m,⟨o,_,_,ho,_⟩,_⟩:=I.loc
  exact free _ o (fun z=>(hch _ z).2.1 rfl) ho I.free
 ·obtain ⟨v,o,ho,hd⟩:=I.cell x c e
  exact free c o (fun z=>(hch c z).2.2.1 x c e rfl) ho (I.freeC x c e)
 ·obtain ⟨e,n,ne,nf,d⟩:=I.pin p hp
  have nch:p.1∉ch:=fun z=>(hch p.1 z).2.2.2 p hp rfl
  exact ⟨keep p.1 p.2 ne nf nch e n,free p.1 p.2 nch e n,ne,nf,d⟩
theorem Inv.un {t':Nat}(I:Inv X pins σ H s)(u:Un X.fs [] H H' s.heap h')(hok:HOk X.prog X.w H' h'):Inv X pins σ H' {s with heap:=h',toks:=t'}:=by
 obtain ⟨m,⟨o,es,ep,ho,r⟩,_⟩:=id I.loc
 obtain ⟨sl,hL⟩:=u.any ho I.free (by simp)
 exact I.step (g':=s.gens) (d':=s.drawn) (ch:=[]) (fun _ z=>nomatch z) (fun b o _ hb _ e n=>u.keep b o e n hb (by simp)) (fun b o _ hb _ e n=>u.slot b o e n hb (by simp)) (fun b o _ e n=>u.free b o e n (by simp)) (fun b o _ e=>u.there b o e (by simp)) u.tups u.frzs u.tbls (fun m' hm=>by
  obtain ⟨o',es',ep',ho',r'⟩:=hm
  rw [ho] at ho';cases ho'
  exact ⟨_,es',ep',hL,r'⟩) hok I.bare
theorem Inv.call {g':Array GenState}{t':Nat}{d':Drawn}{ch:List Addr}(I:Inv X pins σ H s)(u:Un (frs X.stack) ch H H' s.heap h')(hok:HOk X.prog X.w H' h')(hg:AllBare g')
  (hch:∀b∈ch,(b∈X.ex∨X.s₀.heap.objs.size≤b)∧b≠X.env.locals∧(∀x c,X.env.cells.lookup x=some c→c≠b)∧∀p∈X.pn++pins,p.1≠b):
  Inv X pins σ H' {s with heap:=h',gens:=g',drawn:=d',toks:=t'}:=by
 obtain ⟨m,⟨o,es,ep,ho,r⟩,_⟩:=id I.loc
 obtain ⟨sl,hL⟩:=u.any ho I.free fun z=>(hch _ z).2.1 rfl
 exact I.step (ch:=ch) hch (fun b o hL hb hc e n=>u.keep b o e n (fun z=>(List.mem_cons.mp (I.stkSub b z)).elim hL hb) hc) (fun b o _ _ hc e n=>u.any e n hc) (fun b o hc e n=>u.free b o e n hc) (fun b o hc e=>u.there b o e hc) u.tups u.frzs u.tbls (fun m' hm=>by
  obtain ⟨o',es',ep',ho',r'⟩:=hm
  rw [ho] at ho';cases ho'
  exact ⟨_,es',ep',hL,r'⟩) hok hg
theorem Inv.turned {t':Nat}{it:Addr}(I:Inv X pins σ H s)(k:∀b o,b≠it→s.heap.get? b=some o→h'.get? b=some o)(hn:H it=none)(hL:it≠X.env.locals)
  (h1:it∈X.ex∨X.s₀.heap.objs.size≤it) (h2:∀x c,X.env.cells.lookup x=some c→c≠it) (h3:∀p∈X.pn++pins,p.1≠it):Inv X pins σ H {s with heap:=h',toks:=t'}:=by
 have nit:∀b u,H b=some u→b≠it:=fun b u e z=>by rw [z,hn] at e;cases e
 refine I.step (g':=s.gens) (d':=s.drawn) (ch:=[it]) (fun b hb=>?_) (fun b o _ _ hc e _=>k b o (fun z=>hc (by simp [z])) e) (fun b o _ _ hc e _=>⟨o.slots,k b o (fun z=>hc (by simp [z])) e⟩) (fun _ _ _ _ n=>n)
  (fun b o hc e=>⟨o,k b o (fun z=>hc (by simp [z])) e⟩) (fun _ _ e=>e) (fun _ _ _ e=>e) (fun b ps e=>⟨#[],by rw [e];simp⟩) (fun m hm=>?_) (fun b u e=>?_) I.bare
 ·have e:b=it:=by simpa using hb
  subst e
  exact ⟨h1,hL,h2,h3⟩
 ·obtain ⟨o,es,ep,ho,r⟩:=hm
  exact ⟨o,es,ep,k _ o (Ne.symm hL) ho,r⟩
 ·refine (I.hok b u e).stay (fun c v hc q=>k c v ?_ q) (fun _ q=>q) fun _ _ q=>q
  rcases hc with z | z
  ·rw [z];exact nit b u e
  ·exact nit c _ z
theorem Inv.tok (I:Inv X pins σ H s)(t:Nat):Inv X pins σ H {s with toks:=t}:=I.un (h':=s.heap) (t':=t) Un.refl I.hok
theorem Inv.kept {t':Nat}(I:Inv X pins σ H s)(k:∀b u,s.heap.get? b=some u→h'.get? b=some u):Inv X pins σ H {s with heap:=h',toks:=t'}:=I.un (Un.kept k) (I.hok.kept k)
theorem Inv.laid {a:Addr}{o:HO}{t':Nat}(I:Inv X pins σ H s)(k:∀b u,s.heap.get? b=some u→h'.get? b=some u)(hp:s.heap.objs.size≤a)(new:zY X.prog X.w (upd H a o) h' a o):
  Inv X pins σ (upd H a o) {s with heap:=h',toks:=t'}:=I.un (Un.laid k hp (I.hok.fresh hp)) (I.hok.laid k hp new)
theorem Inv.write {x e:Addr}{o:HO}{t':Nat}(I:Inv X pins σ H s)(mu:Mut (H x))(he:e=x∨H e=some (.own x))(k:∀b u,b≠e→s.heap.get? b=some u→h'.get? b=some u)(heo:∃u,h'.get? e=some u)
  (new:zY X.prog X.w (upd H x o) h' x o):Inv X pins σ (upd H x o) {s with heap:=h',toks:=t'}:=I.un (Un.write mu he k heo) (I.hok.write mu he k heo new)
theorem Inv.pins_of {pins':List (Addr ×Obj)}(I:Inv X pins σ H s)(h:∀p∈pins',s.heap.get? p.1=some p.2∧H p.1=none∧p.1≠X.env.locals∧p.1∉X.fs∧∀v,p.2.data≠ .cell v):Inv X pins' σ H s:=
 ⟨I.ok,I.os,I.bare,I.base,I.loc,I.cell,I.free,I.freeC,fun p hp=>(List.mem_append.mp hp).elim (fun z=>I.pin p (List.mem_append_left _ z)) (h p),I.hok,I.len⟩
theorem zdQ {N:List Str}(hN:N.Nodup){i j:Nat}{x:Str}(a:N[i]? =some x)(b:N[j]? =some x):i=j:=by
 obtain ⟨h1,e1⟩:=List.getElem?_eq_some_iff.mp a
 obtain ⟨h2,e2⟩:=List.getElem?_eq_some_iff.mp b
 exact (List.getElem_inj hN).mp (e1.trans e2.symm)
theorem zhT {M:Model}{A:Around}{E:Value→Shared→Prop}{i:Nat}{x:Str}{v:V}{u:Value}{Q:Unit→Shared→Prop}(I:Inv X pins σ H s)(hN:X.N.Nodup)(hi:X.N[i]? =some x)(hx:Loc X.env.scope x)(r:RelV v u)
  (h:∀s',Inv X pins (σ.set i (some v)) H s'→(∃a,Heap.SameBut a s.heap s'.heap∧(a=X.env.locals∨X.env.cells.lookup x=some a))→Q () s') (hf:X.fn x=true∨X.env.scope.names.lookup x=some .local:=by first | exact .inl rfl | exact .inr rfl | assumption):wpAny M A (storeName X.env x u) Q E s:=by
 obtain ⟨m,hn,hl⟩:=id I.loc
 have hcls:(X.env.scope.kind==.class || (X.env.scope.kind==.module && X.env.locals !=X.env.globals))=false:=by rw [I.ok.kind];rfl
 have hiσ:i < σ.length:=by rw [I.len];exact (List.getElem?_eq_some_iff.mp hi).1
 have cne:=I.cne
 have tracked:∀{a:Addr} {h':Heap},(∃o,s.heap.get? a=some o∧H a=none)→Heap.SameBut a s.heap h'→HOk X.prog X.w H h':=fun {a h'} ha hs b ob e=>by
  obtain ⟨_,_,hfree⟩:=ha
  refine (I.hok b ob e).stay (fun c w' hc q=>(hs.2 c ?_).trans q) (fun _ q=>q) fun _ _ q=>q
  rintro rfl
  rcases hc with rfl | hc
  ·rw [hfree] at e;cases e
  ·rw [hfree] at hc;cases hc
 rcases hx with hk | hk
 ·refine wpAny_storeName_local hk hn (fun h' hn' hs=>?_) hcls
  obtain ⟨oL,_,_,hoL,_⟩:=id hn
  refine h _ ⟨I.ok,I.os,I.bare,⟨fun b o e n hb hx=>?_,fun b o e n hb hx=>?_,I.base.free,fun b o e hx=>?_,I.base.tups,I.base.frzs,I.base.tbls⟩,⟨_,hn',fun j y v' e1 e2 e3=>?_⟩,fun y c e=>?_,I.free,I.freeC,fun p hp=>?_,tracked ⟨oL,hoL,I.free⟩ hs,by simpa using I.len⟩ ⟨_,hs,.inl rfl⟩
  ·exact (hs.2 b (Nat.ne_of_lt (Nat.lt_of_lt_of_le (Heap.lt_size e) I.ok.above))).trans (I.base.keep b o e n hb hx)
  ·obtain ⟨sl,e1⟩:=I.base.slot b o e n hb hx
   exact ⟨sl,(hs.2 b (Nat.ne_of_lt (Nat.lt_of_lt_of_le (Heap.lt_size e) I.ok.above))).trans e1⟩
  ·obtain ⟨o',e1⟩:=I.base.there b o e hx
   exact ⟨o',(hs.2 b (Nat.ne_of_lt (Nat.lt_of_lt_of_le (Heap.lt_size e) I.ok.above))).trans e1⟩
  ·by_cases hj:j=i
   ·subst hj
    rw [hi] at e1;cases e1
    rw [List.getElem?_set_self hiσ] at e2
    cases e2
    exact ⟨u,r,.inl ⟨hk,by simp⟩⟩
   ·rw [List.getElem?_set_ne (Ne.symm hj)] at e2
    obtain ⟨u',r',q⟩:=hl j y v' e1 e2 e3
    refine ⟨u',r',?_⟩
    rcases q with ⟨k,e⟩ | ⟨k,c,e,z⟩
    ·refine .inl ⟨k,?_⟩
     have:y≠x:=fun e=>hj (zdQ hN e1 (e ▸ hi))
     simp [this,e]
    ·exact .inr ⟨k,c,e,z.sameBut hs (cne y c e)⟩
  ·obtain ⟨w',z⟩:=I.cell y c e
   exact ⟨w',z.sameBut hs (cne y c e)⟩
  ·obtain ⟨e,n,ne,nf,d⟩:=I.pin p hp
   exact ⟨(hs.2 p.1 ne).trans e,n,ne,nf,d⟩
 ·have hfn:X.fn x=true:=by
   rcases hf with z | z
   ·exact z
   ·rw [z] at hk;cases hk
  obtain ⟨c,hc⟩:=I.ok.has x (.inl hk)
  obtain ⟨w',z⟩:=I.cell x c hc
  refine wpAny_storeName_cell I.ok.kind hk hc z (fun h' hc' hs=>?_)
  obtain ⟨oc,hoc,hocd⟩:=id z
  refine h {s with heap:=h'} ⟨I.ok,I.os,I.bare,⟨fun b o e n hb hx=>?_,fun b o e n hb hx=>?_,I.base.free,fun b o e hx=>?_,I.base.tups,I.base.frzs,I.base.tbls⟩,⟨m,hn.sameBut hs (Ne.symm (cne x c hc)),fun j y v' e1 e2 e3=>?_⟩,fun y c' e=>?_,I.free,I.freeC,fun p hp=>?_,tracked ⟨oc,hoc,I.freeC x c hc⟩ hs,by simpa using I.len⟩ ⟨c,hs,.inr hc⟩
  ·exact (hs.2 b (Nat.ne_of_lt (Nat.lt_of_lt_of_le (Heap.lt_size e) (I.ok.cab x c hfn hc)))).trans (I.base.keep b o e n hb hx)
  ·obtain ⟨sl,e1⟩:=I.base.slot b o e n hb hx
   exact ⟨sl,(hs.2 b (Nat.ne_of_lt (Nat.lt_of_lt_of_le (Heap.lt_size e) (I.ok.cab x c hfn hc)))).trans e1⟩
  ·obtain ⟨o',e1⟩:=I.base.there b o e hx
   exact ⟨o',(hs.2 b (Nat.ne_of_lt (Nat.lt_of_lt_of_le (Heap.lt_size e) (I.ok.cab x c hfn hc)))).trans e1⟩
  ·by_cases hj:j=i
   ·subst hj
    rw [hi] at e1;cases e1
    rw [List.getElem?_set_self hiσ] at e2
    cases e2
    exact ⟨u,r,.inr ⟨.inl hk,c,hc,hc'⟩⟩
   ·rw [List.getElem?_set_ne (Ne.symm hj)] at e2
    obtain ⟨u',r',q⟩:=hl j y v' e1 e2 e3
    refine ⟨u',r',?_⟩
    rcases q with q | ⟨k,c',e,z'⟩
    ·exact .inl q
    ·refine .inr ⟨k,c',e,z'.sameBut hs ?_⟩
     rintro rfl
     exact hj (zdQ hN e1 (I.ok.inj _ _ _ e hc ▸ hi))
  ·by_cases hcc:c'=c
   ·subst hcc;exact ⟨_,hc'⟩
   ·obtain ⟨w2,z2⟩:=I.cell y c' e
    exact ⟨w2,z2.sameBut hs hcc⟩
  ·obtain ⟨e,n,ne,nf,d⟩:=I.pin p hp
   refine ⟨(hs.2 p.1 ?_).trans e,n,ne,nf,d⟩
   intro q
   rw [q,hoc] at e
   have q':oc=p.2:=Option.some.inj e
   exact d w' (by rw [←q'];exact hocd)
theorem zcq {M:Model}{A:Around}{E:Value→Shared→Prop}{i:Nat}{x:Str}{v:V}{u:Value}{Q:Unit→Shared→Prop}(I:Inv X pins σ H s)(hN:X.N.Nodup)(hi:X.N[i]? =some x)(hx:Loc X.env.scope x)(r:RelV v u)
  (h:∀s',Inv X pins (σ.set i (some v)) H s'→Q () s') (hf:X.fn x=true∨X.env.scope.names.lookup x=some .local:=by first | exact .inl rfl | exact .inr rfl | assumption):wpAny M A (storeName X.env x u) Q E s:=
 zhT I hN hi hx r (fun s' I' _=>h s' I') hf
theorem Inv.call' {s':Shared}{ch:List Addr}(I:Inv X pins σ H s)(ho:s'.os=s.os)(u:Un (frs X.stack) ch H H' s.heap s'.heap)(hok:HOk X.prog X.w H' s'.heap)(hg:AllBare s'.gens)
  (hch:∀b∈ch,(b∈X.ex∨X.s₀.heap.objs.size≤b)∧b≠X.env.locals∧(∀x c,X.env.cells.lookup x=some c→c≠b)∧∀p∈X.pn++pins,p.1≠b):Inv X pins σ H' s':=by
 obtain ⟨h',g',d',t',o'⟩:=s'
 have e:o'=s.os:=ho
 subst e
 exact I.call (g':=g') (t':=t') (d':=d') u hok hg hch
end
abbrev XK:=Value→Option Addr→Hp→Prop
abbrev St:=List (Option V)
abbrev VK:=V→Hp→Prop
abbrev TE:=St→Hp→VK→Prop
abbrev TT:=St→Hp→(Bool→Hp→Prop)→Prop
abbrev TA:=St→Hp→(List V→Hp→Prop)→Prop
structure Ends where
 nx:St→Hp→Prop
 rt:VK
 bk:St→Hp→Prop:=fun _ _=>False
 ct:St→Hp→Prop:=fun _ _=>False
abbrev TS:=Ends→St→Hp→Prop
def EP (X:Cx)(pins:List (Addr ×Obj))(σ:St)(Q:VK)(u:Value)(s':Shared):Prop:=∃v H',Inv X pins σ H' s'∧RelV v u∧Q v H'
def TP (X:Cx)(pins:List (Addr ×Obj))(σ:St)(Q:Bool→Hp→Prop)(b:Bool)(s':Shared):Prop:=∃H',Inv X pins σ H' s'∧Q b H'
def AP (X:Cx)(pins:List (Addr ×Obj))(σ:St)(Q:List V→Hp→Prop)(us:List Value)(s':Shared):Prop:=∃vs H',Inv X pins σ H' s'∧Vals vs us∧Q vs H'
def SP (X:Cx)(pins:List (Addr ×Obj))(D:Ends)(f:Flow)(s':Shared):Prop:=
 match f with
 | .next=>∃σ' H',Inv X pins σ' H' s'∧D.nx σ' H'
 | .brk=>∃σ' H',Inv X pins σ' H' s'∧D.bk σ' H'
 | .cont=>∃σ' H',Inv X pins σ' H' s'∧D.ct σ' H'
 | .ret u=>∃v σ' H',Inv X pins σ' H' s'∧RelV v u∧D.rt v H'
def PE (X:Cx)(e:Expr)(t:TE):Prop:=
 ∀(pins:List (Addr ×Obj)) (s:Shared) (σ:St) (H:Hp) (Q:VK),Inv X pins σ H s→t σ H Q→wpAny (model X.prog X.w) X.A (eval e X.env) (EP X pins σ Q) X.xe s
def PT (X:Cx)(e:Expr)(t:TT):Prop:=
 ∀(pins:List (Addr ×Obj)) (s:Shared) (σ:St) (H:Hp) (Q:Bool→Hp→Prop),Inv X pins σ H s→t σ H Q→wpAny (model X.prog X.w) X.A (isTrue e X.env (eval e X.env)) (TP X pins σ Q) X.xe s
def PW (X:Cx)(e:Expr)(t:TT):Prop:=
 ∀(whole:Sem Value) (pins:List (Addr ×Obj)) (s:Shared) (σ:St) (H:Hp) (Q:Bool→Hp→Prop),Inv X pins σ H s→t σ H Q→wpAny (model X.prog X.w) X.A (isTrue e X.env whole) (TP X pins σ Q) X.xe s
theorem PW.pt {X:Cx}{e:Expr}{t:TT}(h:PW X e t):PT X e t:=h _
def PA (X:Cx)(es:List Expr)(t:TA):Prop:=
 ∀(pos:Pos) (pins:List (Addr ×Obj)) (s:Shared) (σ:St) (H:Hp) (Q:List V→Hp→Prop),Inv X pins σ H s→t σ H Q→wpAny (model X.prog X.w) X.A (spliced (backTo pos (starEach es X.env))) (AP X pins σ Q) X.xe s
def PS (X:Cx)(st:Stmt)(t:TS):Prop:=
 ∀(pins:List (Addr ×Obj)) (s:Shared) (σ:St) (H:Hp) (D:Ends),Inv X pins σ H s→t D σ H→wpAny (model X.prog X.w) X.A (exec st X.env) (SP X pins D) X.xe s
def PSs (X:Cx)(st:List Stmt)(t:TS):Prop:=
 ∀(pins:List (Addr ×Obj)) (s:Shared) (σ:St) (H:Hp) (D:Ends),Inv X pins σ H s→t D σ H→wpAny (model X.prog X.w) X.A (execs st X.env) (SP X pins D) X.xe s
theorem thn {α:Type}{t:Sem α}{Q Q':α→Shared→Prop}{M:Model}{A:Around}{E:Value→Shared→Prop}{s:Shared}(h:wpAny M A t Q E s)(hQ:∀a s,Q a s→Q' a s):wpAny M A t Q' E s:=wpAny_mono h hQ fun _ _ x=>x
end L2
namespace L2
open PySem PySem.Spec PyProof.Rows
section
variable {X:Cx}
theorem bin {a b:Expr}{ta tb:TE}(ha:PE X a ta)(hb:PE X b tb){pins:List (Addr ×Obj)}{s:Shared}{σ:St}{H:Hp}{R:V→V→Hp→Prop}(I:Inv X pins σ H s)(h:ta σ H fun x H1=>tb σ H1 fun y H2=>R x y H2)
  {α:Type} {Q:α→Shared→Prop} {f:Value→Value→Sem α}
  (hf:∀v u s2 x y H2,Inv X pins σ H2 s2→RelV x v→RelV y u→R x y H2→wpAny (model X.prog X.w) X.A (f v u) Q X.xe s2):
  wpAny (model X.prog X.w) X.A (eval a X.env) (fun v s₁=>wpAny (model X.prog X.w) X.A (eval b X.env) (fun u s₂=>wpAny (model X.prog X.w) X.A (f v u) Q X.xe s₂) X.xe s₁) X.xe s:=by
 refine thn (ha pins s σ H _ I h) fun v s1 ⟨x,H1,I1,r1,q1⟩=>?_
 refine thn (hb pins s1 σ H1 _ I1 q1) fun u s2 ⟨y,H2,I2,r2,q2⟩=>?_
 exact hf v u s2 x y H2 I2 r1 r2 q2
def tVar (i:Nat):TE:=fun σ H Q=>∃v,σ[i]? =some (some v)∧Q v H
def tC (v:V):TE:=fun _ H Q=>Q v H
theorem zlP {i:Nat}{x:Str}{pos:Pos}(hN:X.N[i]? =some x)(hv:Vis X.env.scope x)(hd:(x==("__debug__" :Str))=false:=by decide) (hcd:(x==("__classdict__" :Str))=false:=by decide):PE X (.Name x pos) (tVar i):=by
 intro pins s σ H Q I h
 obtain ⟨v,e,h⟩:=h
 obtain ⟨m,hn,hl⟩:=I.loc
 obtain ⟨u,r,l⟩:=hl i x v hN e hv
 have fin:EP X pins σ Q u s:=⟨v,H,I,r,h⟩
 rcases l with ⟨hk,hm⟩ | ⟨hk,c,hc,hcell⟩
 ·exact wpAny_Name (wpAny_loadName_local I.ok.kind hk hn hm fin) hd
 ·rcases hk with hk | hk
  ·exact wpAny_Name (wpAny_loadName_cell I.ok.kind hk hc hcell fin) hd
  ·exact wpAny_Name (wpAny_loadName_free I.ok.kind hk hc hcell fin hcd) hd
theorem zd {i j pos}:PE X (.Constant (.int i) j pos) (tC (.int i)):=fun _ _ _ H _ I h=>wpAny_Constant_int ⟨.int i,H,I.tok _,⟨_,rfl⟩,h⟩
theorem zal {b j pos}:PE X (.Constant (.bool b) j pos) (tC (.bl b)):=fun _ _ _ H _ I h=>Constant_bool ⟨.bl b,H,I,rfl,h⟩
theorem zJ {j pos}:PE X (.Constant .none j pos) (tC .non):=fun _ _ _ H _ I h=>Constant_none ⟨.non,H,I,rfl,h⟩
theorem z7 {x j pos}:PE X (.Constant (.str x) j pos) (tC (.str x)):=fun _ _ _ H _ I h=>Calls.Constant_str ⟨.str x,H,I.tok _,⟨_,rfl⟩,h⟩
def Gl (X:Cx)(x:Str):Prop:=X.env.kindOf x=some .globalImplicit
theorem za8 {E:Value→Shared→Prop}{pins:List (Addr ×Obj)}{s:Shared}{σ:St}{H:Hp}{x:Str}{u:Value}{pos:Pos}{Q:Value→Shared→Prop}(I:Inv X pins σ H s)(hg:Gl X x)(hm:X.mg x=some u)(h:Q u s)
  (hd:(x==("__debug__" :Str))=false:=by decide):wpAny (model X.prog X.w) X.A (eval (.Name x pos) X.env) Q E s:=
 Calls.Name_function_global I.ok.kind hg (Calls.loadGlobal_global (by rw [I.ok.glob];exact I.mod.glob.keeps I.bk) hm h) hd
theorem zdd {E:Value→Shared→Prop}{pins:List (Addr ×Obj)}{s:Shared}{σ:St}{H:Hp}{x:Str}{u:Value}{pos:Pos}{Q:Value→Shared→Prop}(I:Inv X pins σ H s)(hg:Gl X x)(hm:X.mg x=none)(hv:bootBuiltins x=some u)(h:Q u s)
  (hn:x≠ "__name__" :=by decide) (hd:(x==("__debug__" :Str))=false:=by decide):wpAny (model X.prog X.w) X.A (eval (.Name x pos) X.env) Q E s:=by
 obtain ⟨mb,h1,h2⟩:=I.mod.blt
 exact Calls.Name_function_global I.ok.kind hg (Calls.loadGlobal_builtin (by rw [I.ok.glob];exact I.mod.glob.keeps I.bk) hm (by rw [I.ok.blt];exact h1.keeps I.bk) ((h2 x hn).trans hv) h) hd
theorem zv {x:Str}{v:V}{u:Value}{pos:Pos}(hg:Gl X x)(hm:X.mg x=some u)(r:RelV v u)(hd:(x==("__debug__" :Str))=false:=by decide):PE X (.Name x pos) (tC v):=
 fun _ _ _ H _ I h=>za8 I hg hm ⟨v,H,I,r,h⟩ hd
theorem zaz {x:Str}{v:V}{u:Value}{pos:Pos}(hg:Gl X x)(hm:X.mg x=none)(hv:bootBuiltins x=some u)(r:RelV v u)(hn:x≠ "__name__" :=by decide) (hd:(x==("__debug__" :Str))=false:=by decide):PE X (.Name x pos) (tC v):=
 fun _ _ _ H _ I h=>zdd I hg hm hv ⟨v,H,I,r,h⟩ hn hd
def t2I (ta tb:TE)(k:Int→Int→Hp→Prop):St→Hp→Prop:=fun σ H=>ta σ H fun x H1=>tb σ H1 fun y H2=>∃i j,x=.int i∧y=.int j∧k i j H2
def tAdd (ta tb:TE):TE:=fun σ H Q=>t2I ta tb (fun i j H2=>Q (.int (i+j)) H2) σ H
def tSub (ta tb:TE):TE:=fun σ H Q=>t2I ta tb (fun i j H2=>Q (.int (i - j)) H2) σ H
def tMul (ta tb:TE):TE:=fun σ H Q=>t2I ta tb (fun i j H2=>(-(2 ^ 64) < i∧i < 2 ^ 64)∧Q (.int (i * j)) H2) σ H
variable {a b:Expr}{ta tb:TE}{pos:Pos}
def PC (X:Cx)(op:CmpOp)(a b:Expr)(t:TE):Prop:=
 ∀(pins:List (Addr ×Obj)) (s:Shared) (σ:St) (H:Hp) (Q:VK),Inv X pins σ H s→t σ H Q→
  wpAny (model X.prog X.w) X.A (eval a X.env) (fun v s₁=>wpAny (model X.prog X.w) X.A (eval b X.env) (fun u s₂=>wpAny (model X.prog X.w) X.A (compareOp op v u) (EP X pins σ Q) X.xe s₂) X.xe s₁) X.xe s
theorem ziZ (b:Expr){op:CmpOp}(h:op≠ .In)(h2:op≠ .NotIn):behindInMarks op b=false:=by
 have e1:(op==CmpOp.In)=false:=by cases op <;> first | rfl | exact absurd rfl h
 have e2:(op==CmpOp.NotIn)=false:=by cases op <;> first | rfl | exact absurd rfl h2
 cases b <;> simp [behindInMarks,e1,e2]
def tCmp (p:Int→Int→Bool)(ta tb:TE):TE:=fun σ H Q=>t2I ta tb (fun i j H2=>Q (.bl (p i j)) H2) σ H
abbrev tLt:TE→TE→TE:=tCmp fun i j=>decide (i < j)
abbrev tLe:TE→TE→TE:=tCmp fun i j=>decide (i≤j)
abbrev tGt:TE→TE→TE:=tCmp fun i j=>decide (j < i)
abbrev tGe:TE→TE→TE:=tCmp fun i j=>decide (j≤i)
abbrev tEqI:TE→TE→TE:=tCmp fun i j=>decide (i=j)
abbrev tNeI:TE→TE→TE:=tCmp fun i j=>!decide (i=j)
def tIsN (ta:TE):TE:=fun σ H Q=>ta σ H fun x H1=>Q (.bl (decide (x=.non))) H1
def znl (ta:TE):TE:=fun σ H Q=>ta σ H fun x H1=>Q (.bl (!decide (x=.non))) H1
def tB (t:TE):TT:=fun σ H Q=>t σ H fun x H1=>∃c,x=.bl c∧Q c H1
theorem zjp {op:CmpOp}{t:TE}(h:PC X op a b t)(h1:behindInMarks op b=false:=by first | exact ziZ _ (by decide) (by decide) | rfl):PT X (.Compare a [op] [b] pos) (tB t):=by
 intro pins s σ H Q I hw
 refine wpAny_isTrue_Compare1 (thn (h pins s σ H _ I hw) fun v s1 h1=>thn h1 fun u s2 h2=>thn h2 fun c s3 ⟨x,H1,I1,r1,q1⟩=>?_) h1
 obtain ⟨d,rfl,q⟩:=q1
 cases r1
 exact wpAny_truthy_bool ⟨H1,I1,q⟩
theorem zQ {e:Expr}{t:TE}(h:PE X e t)(he:∀whole,isTrue e X.env whole=(do let v←whole;standAt e.pos;holding [v] (truthy v)):=by intro _;rfl):PT X e (tB t):=by
 intro pins s σ H Q I hw
 refine isTrue_plain (thn (h pins s σ H _ I hw) fun v s1 ⟨x,H1,I1,r1,q1⟩=>?_) (he _)
 obtain ⟨d,rfl,q⟩:=q1
 cases r1
 exact wpAny_truthy_bool ⟨H1,I1,q⟩
variable {tA tB':TT}{rest:List Expr}
def tAnd (t u:TT):TT:=fun σ H Q=>t σ H fun c H1=>if c=true then u σ H1 Q else Q false H1
def tOr (t u:TT):TT:=fun σ H Q=>t σ H fun c H1=>if c=true then Q true H1 else u σ H1 Q
def tNot (t:TT):TT:=fun σ H Q=>t σ H fun c H1=>Q (!c) H1
theorem ze4 (ha:PT X a tA):PW X (.BoolOp .And [a] pos) tA:=by
 intro wh pins s σ H Q I h
 refine isTrue_and (thn (ha pins s σ H Q I h) fun c s1 e=>?_)
 cases c with
 | true=>exact isTrue_and_nil e
 | false=>exact e
theorem zbJ (ha:PT X a tA):PW X (.BoolOp .Or [a] pos) tA:=by
 intro wh pins s σ H Q I h
 refine isTrue_or (thn (ha pins s σ H Q I h) fun c s1 e=>?_)
 cases c with
 | false=>exact isTrue_or_nil e
 | true=>exact e
theorem ze3 (ha:PT X a tA)(hb:PW X (.BoolOp .And (b::rest) pos) tB'):PW X (.BoolOp .And (a::b::rest) pos) (tAnd tA tB'):=by
 intro wh pins s σ H Q I h
 refine isTrue_and (thn (ha pins s σ H _ I h) fun c s1 ⟨H1,I1,q1⟩=>?_)
 cases c with
 | true=>exact hb wh pins s1 σ H1 Q I1 q1
 | false=>exact ⟨H1,I1,q1⟩
theorem zcE (ha:PT X a tA)(hb:PW X (.BoolOp .Or (b::rest) pos) tB'):PW X (.BoolOp .Or (a::b::rest) pos) (tOr tA tB'):=by
 intro wh pins s σ H Q I h
 refine isTrue_or (thn (ha pins s σ H _ I h) fun c s1 ⟨H1,I1,q1⟩=>?_)
 cases c with
 | true=>exact ⟨H1,I1,q1⟩
 | false=>exact hb wh pins s1 σ H1 Q I1 q1
theorem zbg (ha:PT X a tA):PT X (.UnaryOp .Not a pos) (tNot tA):=by
 intro pins s σ H Q I h
 exact isTrue_not (ha pins s σ H (fun c H1=>Q (!c) H1) I h)
def zml (ta tb:TE):TE:=fun σ H Q=>ta σ H fun x H1=>∃c,x=.bl c∧if c=true then tb σ H1 Q else Q (.bl false) H1
def tOrV (ta tb:TE):TE:=fun σ H Q=>ta σ H fun x H1=>∃c,x=.bl c∧if c=true then Q (.bl true) H1 else tb σ H1 Q
def zl9 (ta:TE):TE:=fun σ H Q=>ta σ H fun x H1=>∃c,x=.bl c∧Q (.bl (!c)) H1
theorem zbo {op}{t:TE}(h:PE X a t):PE X (.BoolOp op [a] pos) t:=fun pins s σ H Q I hw=>BoolOp_one (h pins s σ H Q I hw)
theorem zbz (ha:PE X a ta)(hb:PE X (.BoolOp .And (b::rest) pos) tb):PE X (.BoolOp .And (a::b::rest) pos) (zml ta tb):=by
 intro pins s σ H Q I h
 refine BoolOp_and (thn (ha pins s σ H _ I h) fun v s1 ⟨x,H1,I1,r1,q1⟩=>?_)
 obtain ⟨c,rfl,q1⟩:=q1
 cases r1
 refine wpAny_truthy_bool ?_
 cases c with
 | true=>exact hb pins s1 σ H1 Q I1 q1
 | false=>exact ⟨.bl false,H1,I1,rfl,q1⟩
theorem zkG (ha:PE X a ta)(hb:PE X (.BoolOp .Or (b::rest) pos) tb):PE X (.BoolOp .Or (a::b::rest) pos) (tOrV ta tb):=by
 intro pins s σ H Q I h
 refine BoolOp_or (thn (ha pins s σ H _ I h) fun v s1 ⟨x,H1,I1,r1,q1⟩=>?_)
 obtain ⟨c,rfl,q1⟩:=q1
 cases r1
 refine wpAny_truthy_bool ?_
 cases c with
 | false=>exact hb pins s1 σ H1 Q I1 q1
 | true=>exact ⟨.bl true,H1,I1,rfl,q1⟩
theorem ze2 (ha:PE X a ta):PE X (.UnaryOp .Not a pos) (zl9 ta):=by
 intro pins s σ H Q I h
 refine UnaryOp_ (thn (ha pins s σ H _ I h) fun v s1 ⟨x,H1,I1,r1,q1⟩=>?_)
 obtain ⟨c,rfl,q1⟩:=q1
 cases r1
 exact not_of (wpAny_truthy_bool ⟨.bl (!c),H1,I1,rfl,q1⟩)
def tIf (t:TT)(ta tb:TE):TE:=fun σ H Q=>t σ H fun c H1=>if c=true then ta σ H1 Q else tb σ H1 Q
theorem zcZ {c:Expr}(hc:PT X c tA)(ha:PE X a ta)(hb:PE X b tb):PE X (.IfExp c a b pos) (tIf tA ta tb):=by
 intro pins s σ H Q I h
 refine wpAny_IfExp (thn (hc pins s σ H _ I h) fun d s1 ⟨H1,I1,q1⟩=>?_)
 cases d with
 | true=>exact ha pins s1 σ H1 Q I1 q1
 | false=>exact hb pins s1 σ H1 Q I1 q1
end
end L2
namespace L2
open PySem PySem.Spec PyProof.Rows
def SqL (K:PySem.W.Frag)(H:Hp)(a:Addr)(xs:List V):Prop:=
 Rd H a (.lst xs)∨
  ∃(o:Obj) (its:Array Value) (n:Nat),K.lookup a=some o∧o.cls=.type "list" ∧o.dict=none∧o.data=.seq its n∧its.size≤sizeLine∧Vals xs its.toList
def SqT (K:PySem.W.Frag)(H:Hp)(a:Addr)(xs:List V):Prop:=
 Rd H a (.tup xs)∨
  ∃(o:Obj) (its:Array Value) (n:Nat),K.lookup a=some o∧o.cls=.type "tuple" ∧o.data=.seq its n∧its.size≤sizeLine∧Vals xs its.toList
def absV:Value→Option V
 | .none=>some .non
 | .bool b=>some (.bl b)
 | .int i _=>some (.int i)
 | .str x _=>some (.str x)
 | .bytes b _=>some (.byt b)
 | .float b _=>some (.flt b)
 | .ref a=>some (.ref a)
 | .type n=>some (.ty n)
 | _=>none
theorem RelV.abs {x:V}{u:Value}(r:RelV x u):absV u=some x:=by
 cases x with
 | non=>cases r;rfl
 | bl _=>cases r;rfl
 | int _=>obtain ⟨t,rfl⟩:=r;rfl
 | str _=>obtain ⟨t,rfl⟩:=r;rfl
 | byt _=>obtain ⟨t,rfl⟩:=r;rfl
 | flt _=>obtain ⟨t,rfl⟩:=r;rfl
 | ref _=>cases r;rfl
 | ty _=>cases r;rfl
theorem RelV.inj {x y:V}{u:Value}(r:RelV x u)(q:RelV y u):x=y:=Option.some.inj (r.abs.symm.trans q.abs)
theorem Vals.inj:∀{xs ys:List V} {us:List Value},Vals xs us→Vals ys us→xs=ys
 | _,_,_,.nil,.nil=>rfl
 | _,_,_,.cons r t,.cons r' t'=>by rw [r.inj r',Vals.inj t t']
section
variable {X:Cx}{pins:List (Addr ×Obj)}{σ:St}{H:Hp}{s:Shared}{a:Addr}{xs ys:List V}
theorem SqL.of {K:PySem.W.Frag}(h:H a=some (.lst xs)):SqL K H a xs:=.inl (.inl h)
theorem SqT.of {K:PySem.W.Frag}(h:H a=some (.tup xs)):SqT K H a xs:=.inl (.inl h)
theorem Inv.list (I:Inv X pins σ H s)(h:SqL X.K H a xs):∃its:List Value,Vals xs its∧PlainL s.heap a its.toArray∧xs.length≤sizeLine:=by
 rcases h with h | ⟨o,its,n,hk,hc,hd,hs,hz,r⟩
 ·obtain ⟨z,its,n,r,e⟩:=h.ok I.hok
  exact ⟨its,r,⟨_,n,e,rfl,rfl,rfl⟩,z⟩
 ·refine ⟨its.toList,r,⟨o,n,I.kIn a o hk,hc,hd,by simpa using hs⟩,?_⟩
  have e:=r.length
  simp only [Array.length_toList] at e
  omega
theorem Inv.tuple (I:Inv X pins σ H s)(h:SqT X.K H a xs):∃its:List Value,Vals xs its∧IsTup s.heap a its.toArray∧xs.length≤sizeLine:=by
 rcases h with h | ⟨o,its,n,hk,hc,hs,hz,r⟩
 ·obtain ⟨z,its,r,p⟩:=h.ok I.hok
  exact ⟨its,r,p,z⟩
 ·refine ⟨its.toList,r,⟨o,I.kIn a o hk,hc,n,by simpa using hs⟩,?_⟩
  have e:=r.length
  simp only [Array.length_toList] at e
  omega
theorem Inv.list_inj (I:Inv X pins σ H s)(h:SqL X.K H a xs)(h':SqL X.K H a ys):xs=ys:=by
 obtain ⟨its,r,⟨o,n,e,_,_,d⟩,_⟩:=I.list h
 obtain ⟨its',r',⟨o',n',e',_,_,d'⟩,_⟩:=I.list h'
 rw [e] at e';cases e'
 rw [d] at d'
 injection d' with d1 _
 have:its=its':=by simpa using congrArg Array.toList d1
 subst this
 exact r.inj r'
theorem Inv.tuple_inj (I:Inv X pins σ H s)(h:SqT X.K H a xs)(h':SqT X.K H a ys):xs=ys:=by
 obtain ⟨its,r,⟨o,e,_,n,d⟩,_⟩:=I.tuple h
 obtain ⟨its',r',⟨o',e',_,n',d'⟩,_⟩:=I.tuple h'
 rw [e] at e';cases e'
 rw [d] at d'
 injection d' with d1 _
 have:its=its':=by simpa using congrArg Array.toList d1
 subst this
 exact r.inj r'
end
abbrev Cx.wish (X:Cx)(E:Value→Shared→Prop):Cx:={X with xe:=E}
abbrev Cx.nox (X:Cx):Cx:=X.wish fun _ _=>False
theorem Cx.Ok.wish {X:Cx}(ok:X.Ok)(E:Value→Shared→Prop):(X.wish E).Ok:=
 ⟨ok.mod,ok.kind,ok.glob,ok.blt,ok.above,ok.inj,ok.has,ok.cab,ok.hd,ok.frames,ok.stk,ok.exf,ok.bs,ok.bsz,ok.noex,ok.exfs,ok.funs,ok.frf⟩
theorem Cx.Ok.unwish {X:Cx}{E:Value→Shared→Prop}(ok:(X.wish E).Ok):X.Ok:=
 ⟨ok.mod,ok.kind,ok.glob,ok.blt,ok.above,ok.inj,ok.has,ok.cab,ok.hd,ok.frames,ok.stk,ok.exf,ok.bs,ok.bsz,ok.noex,ok.exfs,ok.funs,ok.frf⟩
section
variable {X:Cx}{pins:List (Addr ×Obj)}{σ:St}{H:Hp}{s:Shared}{E:Value→Shared→Prop}
theorem Inv.wish (I:Inv X pins σ H s)(E:Value→Shared→Prop):Inv (X.wish E) pins σ H s:=⟨I.ok.wish E,I.os,I.bare,I.base,I.loc,I.cell,I.free,I.freeC,I.pin,I.hok,I.len⟩
theorem Inv.unwish (I:Inv (X.wish E) pins σ H s):Inv X pins σ H s:=⟨I.ok.unwish,I.os,I.bare,I.base,I.loc,I.cell,I.free,I.freeC,I.pin,I.hok,I.len⟩
theorem SP.unwish {D:Ends}{f:Flow}{s':Shared}(h:SP (X.wish E) pins D f s'):SP X pins D f s':=by
 cases f with
 | next=>obtain ⟨σ',H',I,q⟩:=h;exact ⟨σ',H',I.unwish,q⟩
 | brk=>obtain ⟨σ',H',I,q⟩:=h;exact ⟨σ',H',I.unwish,q⟩
 | cont=>obtain ⟨σ',H',I,q⟩:=h;exact ⟨σ',H',I.unwish,q⟩
 | ret u=>obtain ⟨v,σ',H',I,r,q⟩:=h;exact ⟨v,σ',H',I.unwish,r,q⟩
theorem PE.nox {e:Expr}{t:TE}(h:PE X.nox e t):PE X e t:=fun pins s σ H Q I hw=>
 wpAny_mono (h pins s σ H Q (I.wish _) hw) (fun _ _ ⟨v,H',I',r,q⟩=>⟨v,H',I'.unwish,r,q⟩) fun _ _ z=>False.elim z
theorem PT.nox {e:Expr}{t:TT}(h:PT X.nox e t):PT X e t:=fun pins s σ H Q I hw=>
 wpAny_mono (h pins s σ H Q (I.wish _) hw) (fun _ _ ⟨H',I',q⟩=>⟨H',I'.unwish,q⟩) fun _ _ z=>False.elim z
theorem PSs.nox {st:List Stmt}{t:TS}(h:PSs X.nox st t):PSs X st t:=fun pins s σ H D I hw=>
 wpAny_mono (h pins s σ H D (I.wish _) hw) (fun _ _ q=>q.unwish) fun _ _ z=>False.elim z
end
section
variable {X:Cx}{st:Stmt}{rest:List Stmt}{t u:TS}{e:Expr}{te:TE}{pos:Pos}
def zjk:TS:=fun D σ H=>D.nx σ H
def tSeq (t u:TS):TS:=fun D σ H=>t {D with nx:=u D} σ H
theorem zr:PSs X [] zjk:=fun _ _ σ H _ I h=>wpAny_execs_nil ⟨σ,H,I,h⟩
theorem zc (h1:PS X st t)(h2:PSs X rest u):PSs X (st::rest) (tSeq t u):=by
 intro pins s σ H D I h
 refine wpAny_execs_cons (thn (h1 pins s σ H {D with nx:=u D} I h) fun f s1 q=>?_)
 cases f with
 | next=>
  obtain ⟨σ',H',I',q⟩:=q
  exact h2 pins s1 σ' H' D I' q
 | ret v=>exact q
 | brk=>exact q
 | cont=>exact q
theorem zf (h1:PS X st t):PSs X [st] t:=by
 intro pins s σ H D I h
 refine wpAny_execs_cons (thn (h1 pins s σ H D I h) fun f s1 q=>?_)
 cases f with
 | next=>exact wpAny_execs_nil q
 | ret v=>exact q
 | brk=>exact q
 | cont=>exact q
def zm0:TS:=fun D σ H=>D.bk σ H
def zl6:TS:=fun D σ H=>D.ct σ H
theorem zfZ:PS X (.Continue pos) zl6:=fun _ _ σ H _ I h=>wpAny_Continue ⟨σ,H,I,h⟩
theorem Inv.quiet {pins:List (Addr ×Obj)}{σ:St}{H:Hp}{s:Shared}(I:Inv X pins σ H s):interactive X.env=false:=by simp [interactive,I.ok.kind]
def zmy (te:TE):TS:=fun D σ H=>te σ H fun _ H1=>D.nx σ H1
theorem zao (he:PE X e te)(hs:swapsWith e none pos.line X.env=pure false:=by rfl):PS X (.Expr e pos) (zmy te):=by
 intro pins s σ H D I h
 exact wpAny_Expr_any (thn (he pins s σ H _ I h) fun v s1 ⟨x,H1,I1,r1,q1⟩=>⟨σ,H1,I1,q1⟩) I.quiet hs
def tRet (te:TE):TS:=fun D σ H=>te σ H D.rt
theorem zl (he:PE X e te):PS X (.Return (some e) pos) (tRet te):=by
 intro pins s σ H D I h
 exact wpAny_Return_some (thn (he pins s σ H _ I h) fun v s1 ⟨x,H1,I1,r1,q1⟩=>⟨x,σ,H1,I1,r1,q1⟩)
def znu:TS:=fun D _ H=>D.rt .non H
def tIfS (c:TT)(t u:TS):TS:=fun D σ H=>c σ H fun b H1=>if b=true then t D σ H1 else u D σ H1
theorem zD {c:Expr}{a b:List Stmt}{tc:TT}(hc:PT X c tc)(ha:PSs X a t)(hb:PSs X b u):PS X (.If c a b pos) (tIfS tc t u):=by
 intro pins s σ H D I h
 refine wpAny_If (thn (hc pins s σ H _ I h) fun d s1 ⟨H1,I1,q1⟩=>?_)
 cases d with
 | true=>exact ha pins s1 σ H1 D I1 q1
 | false=>exact hb pins s1 σ H1 D I1 q1
def zlh:TS:=fun _ _ _=>False
theorem zeO {sts:List Stmt}:PSs X sts zlh:=fun _ _ _ _ _ _ h=>h.elim
end
abbrev TG:=V→St→Hp→(St→Hp→Prop)→Prop
abbrev TGs:=List V→St→Hp→(St→Hp→Prop)→Prop
def PG (X:Cx)(target:Expr)(t:TG):Prop:=
 ∀(pins:List (Addr ×Obj)) (s:Shared) (σ:St) (H:Hp) (v:V) (u:Value) (Q:St→Hp→Prop),Inv X pins σ H s→RelV v u→t v σ H Q→
  wpAny (model X.prog X.w) X.A (assign target X.env u) (fun _ s'=>∃σ' H',Inv X pins σ' H' s'∧Q σ' H') X.xe s
def PGs (X:Cx)(ts:List Expr)(t:TGs):Prop:=
 ∀(pins:List (Addr ×Obj)) (s:Shared) (σ:St) (H:Hp) (vs:List V) (us:List Value) (Q:St→Hp→Prop),Inv X pins σ H s→Vals vs us→t vs σ H Q→
  wpAny (model X.prog X.w) X.A (assignInOrder ((assignEach ts X.env).map (·.2)) us) (fun _ s'=>∃σ' H',Inv X pins σ' H' s'∧Q σ' H') X.xe s
abbrev TSet:=V→V→V→Hp→(Hp→Prop)→Prop
def PSet (X:Cx)(t:TSet):Prop:=
 ∀(pins:List (Addr ×Obj)) (s:Shared) (σ:St) (H:Hp) (o i v:V) (ov iv u:Value) (Q:Hp→Prop),Inv X pins σ H s→RelV o ov→RelV i iv→RelV v u→t o i v H Q→
  wpAny (model X.prog X.w) X.A (setItem ov iv u) (fun _ s'=>∃H',Inv X pins σ H' s'∧Q H') X.xe s
abbrev TIp:=V→V→Hp→VK→Prop
def PIp (X:Cx)(op:Operator)(t:TIp):Prop:=
 ∀(pins:List (Addr ×Obj)) (s:Shared) (σ:St) (H:Hp) (x y:V) (v u:Value) (Q:VK),Inv X pins σ H s→RelV x v→RelV y u→t x y H Q→
  wpAny (model X.prog X.w) X.A (inplaceOp op v u) (EP X pins σ Q) X.xe s
section
variable {X:Cx}{pos:Pos}
def zc3 (i:Nat):TG:=fun v σ H Q=>Q (σ.set i (some v)) H
theorem zX {i:Nat}{x:Str}(hN:X.N.Nodup)(hi:X.N[i]? =some x)(hx:Loc X.env.scope x)(hf:X.fn x=true∨X.env.scope.names.lookup x=some .local:=by first | exact .inl rfl | exact .inr rfl | assumption):PG X (.Name x pos) (zc3 i):=by
 intro pins s σ H v u Q I r h
 exact wpAny_assign_Name (zcq I hN hi hx r (fun s' I'=>⟨_,H,I',h⟩) hf)
def gNil:TGs:=fun vs σ H Q=>vs=[]∧Q σ H
def zmz (t:TG)(u:TGs):TGs:=fun vs σ H Q=>∃v r,vs=v::r∧t v σ H fun σ' H'=>u r σ' H' Q
theorem zeS:PGs X [] gNil:=by
 intro pins s σ H vs us Q I r h
 obtain ⟨e,h⟩:=h
 subst e
 cases r
 exact assignInOrder_nil ⟨σ,H,I,h⟩
theorem zaR {e:Expr}{es:List Expr}{t:TG}{u:TGs}(h1:PG X e t)(h2:PGs X es u)
  (hs:(assignEach (e::es) X.env).map (·.2)=assign e X.env::(assignEach es X.env).map (·.2):=by rfl):PGs X (e::es) (zmz t u):=by
 intro pins s σ H vs us Q I r h
 obtain ⟨v,vr,e1,h⟩:=h
 subst e1
 cases r with
 | cons r rr=>
  rw [hs]
  refine assignInOrder_cons (thn (h1 pins s σ H _ _ _ I r h) fun _ s1 ⟨σ1,H1,I1,q1⟩=>?_)
  exact h2 pins s1 σ1 H1 _ _ Q I1 rr q1
def gTup (K:PySem.W.Frag)(n:Nat)(t:TGs):TG:=fun v σ H Q=>∃a xs,v=.ref a∧SqT K H a xs∧xs.length=n∧t xs σ H Q
theorem zjs {es:List Expr}{k:Nat}{t:TGs}{n:Nat}(hc:X.calm=true)(h:PGs X es t)
  (hn:(assignEach es X.env).length=n:=by rfl) (hst:(assignEach es X.env).findIdx? (·.1)=none:=by rfl):PG X (.Tuple es k pos) (gTup X.K n t):=by
 intro pins s σ H v u Q I r hw
 obtain ⟨a,xs,e1,hq,hl,hw⟩:=hw
 subst e1
 cases r
 obtain ⟨its,rv,ht,hz⟩:=I.tuple hq
 refine assign_Tuple_tuple (I.ok.hd hc) ht (by simp [hn,←hl,rv.length]) hst fun h' hx=>?_
 have I1:Inv X pins σ H {s with heap:=h'}:=I.kept (t':=s.toks) fun b o e=>hx b o (Nat.ne_of_lt (Heap.lt_size e)) e
 exact h pins _ σ H xs _ Q I1 (by simpa using rv) hw
def gSub (to ti:TE)(t:TSet):TG:=fun v σ H Q=>to σ H fun o H1=>ti σ H1 fun i H2=>t o i v H2 fun H3=>Q σ H3
theorem zi1 {o i:Expr}{to ti:TE}{t:TSet}(ho:PE X o to)(hi:PE X i ti)(hs:PSet X t)
  (ha:∀v,assign (.Subscript o i pos) X.env v=(do
   let ov←holding [v] (eval o X.env)
   let iv←holding [v,ov] (eval i X.env)
   standAt pos
   holding [v,ov,iv] (setItem ov iv v)
   release [v,ov,iv] []):=by intro _;rfl):PG X (.Subscript o i pos) (gSub to ti t):=by
 intro pins s σ H v u Q I r h
 rw [ha]
 refine wpAny_bind (wpAny_holding (thn (ho pins s σ H _ I h) fun ov s1 ⟨x,H1,I1,r1,q1⟩=>?_))
 refine wpAny_bind (wpAny_holding (thn (hi pins s1 σ H1 _ I1 q1) fun iv s2 ⟨y,H2,I2,r2,q2⟩=>?_))
 refine wpAny_bind (wpAny_standAt (wpAny_bind (wpAny_holding (thn (hs pins s2 σ H2 x y v ov iv u _ I2 r1 r2 r q2) fun _ s3 ⟨H3,I3,q3⟩=>?_))))
 exact wpAny_release ⟨σ,H3,I3,q3⟩
def tAsg (te:TE)(g:TG):TS:=fun D σ H=>te σ H fun x H1=>g x σ H1 D.nx
theorem zfc {tg e:Expr}{te:TE}{g:TG}(he:PE X e te)(hg:PG X tg g)(hs:swapsWithSole [tg] e pos.line X.env=pure false:=by rfl)(hw:swappedStores [tg] e X.env=pure none:=by rfl)
  (h1:(assignEach [tg] X.env).map (·.2)=[assign tg X.env]:=by rfl):PS X (.Assign [tg] e pos) (tAsg te g):=by
 intro pins s σ H D I h
 refine wpAny_Assign_stores (thn (he pins s σ H _ I h) fun v s1 ⟨x,H1,I1,r1,q1⟩=>?_) hs hw
 rw [h1]
 exact thn (hg pins s1 σ H1 x v _ I1 r1 q1) fun _ s2 q=>q
theorem zq {i:Nat}{x:Str}{e:Expr}{te:TE}{pos':Pos}(hN:X.N.Nodup)(hi:X.N[i]? =some x)(hx:Loc X.env.scope x)(he:PE X e te)(hs:swapsWith e (some (.Name x pos')) pos.line X.env=pure false:=by rfl)(hf:X.fn x=true∨X.env.scope.names.lookup x=some .local:=by first | exact .inl rfl | exact .inr rfl | assumption):
  PS X (.Assign [.Name x pos'] e pos) (tAsg te (zc3 i)):=by
 intro pins s σ H D I h
 refine wpAny_Assign_Name (thn (he pins s σ H _ I h) fun v s1 ⟨y,H1,I1,r1,q1⟩=>?_) hs
 exact zcq I1 hN hi hx r1 (fun s2 I2=>⟨_,H1,I2,q1⟩) hf
def tPar (i j:Nat)(ta:TA):TS:=fun D σ H=>ta σ H fun vs H1=>∃v w,vs=[v,w]∧D.nx ((σ.set i (some v)).set j (some w)) H1
def tAug (i:Nat)(te:TE)(ti:TIp):TS:=fun D σ H=>∃x,σ[i]? =some (some x)∧te σ H fun y H1=>ti x y H1 fun z H2=>D.nx (σ.set i (some z)) H2
def znB (to ti te:TE)(tget:V→V→Hp→VK→Prop)(tip:TIp)(tset:TSet):TS:=fun D σ H=>to σ H fun o H1=>ti σ H1 fun i H2=>tget o i H2 fun x H3=>te σ H3 fun y H4=>tip x y H4 fun z H5=>tset o i z H5 fun H6=>D.nx σ H6
def PGet (X:Cx)(t:V→V→Hp→VK→Prop):Prop:=
 ∀(pins:List (Addr ×Obj)) (s:Shared) (σ:St) (H:Hp) (o i:V) (ov iv:Value) (Q:VK),Inv X pins σ H s→RelV o ov→RelV i iv→t o i H Q→
  wpAny (model X.prog X.w) X.A (getItem ov iv) (EP X pins σ Q) X.xe s
def ipI (f:Int→Int→Int):TIp:=fun x y H Q=>∃i j,x=.int i∧y=.int j∧Q (.int (f i j)) H
end
section
variable {X:Cx}{pos:Pos}
def zlY (c:TT)(tb:TS):TS:=fun D σ H=>∃W:Nat→St→Hp→Prop,(∃m,W m σ H)∧∀m σ H,W m σ H→
 c σ H fun b H1=>if b=true then∃N:St→Hp→Prop,(∀σ' H',N σ' H'→∃m',m' < m∧W m' σ' H')∧tb {D with nx:=N,ct:=N,bk:=D.nx} σ H1 else D.nx σ H1
theorem zdP {c:Expr}{body:List Stmt}{tc:TT}{tb:TS}(hp:PassesOwn (model X.prog X.w) X.A X.env X.xe)(hc:PT X c tc)(hb:PSs X body tb):PS X (.While c body [] pos) (zlY tc tb):=by
 intro pins s σ H D I h
 obtain ⟨W,⟨m0,w0⟩,turn⟩:=h
 refine wpAny_While (codeAny_whileLoop (fun n s'=>∃σ' H',Inv X pins σ' H' s'∧W n σ' H') ?_ m0 ⟨σ,H,I,w0⟩)
 rintro n s1 ⟨σ1,H1,I1,w1⟩
 refine wpAny_passesOwn hp (thn (hc pins s1 σ1 H1 _ I1 (turn n σ1 H1 w1)) fun b s2 ⟨H2,I2,q2⟩=>?_)
 cases b with
 | true=>
  obtain ⟨N,hN,q2⟩:=q2
  rw [if_pos rfl]
  refine wpAny_passesOwn hp (thn (hb pins s2 σ1 H2 _ I2 q2) fun f s3 q3=>?_)
  cases f with
  | next=>
   obtain ⟨σ3,H3,I3,n3⟩:=q3
   obtain ⟨m',hm,w3⟩:=hN σ3 H3 n3
   exact ⟨m',hm,σ3,H3,I3,w3⟩
  | cont=>
   obtain ⟨σ3,H3,I3,n3⟩:=q3
   obtain ⟨m',hm,w3⟩:=hN σ3 H3 n3
   exact ⟨m',hm,σ3,H3,I3,w3⟩
  | brk=>exact q3
  | ret v=>exact q3
 | false=>
  rw [if_neg Bool.false_ne_true]
  exact wpAny_execs_nil ⟨σ1,H2,I2,q2⟩
end
structure It where
 go:Nat→Hp→Prop
 yld:Nat→Hp→V→Hp→Prop
 stop:Nat→Hp→Prop
def FpOk (X:Cx)(pins:List (Addr ×Obj))(H:Hp)(b:Addr):Prop:=
 H b=none∧b≠X.env.locals∧b∉X.fs∧(b∈X.ex∨X.s₀.heap.objs.size≤b)∧(∀x c,X.env.cells.lookup x=some c→c≠b)∧∀p∈X.pn++pins,p.1≠b
theorem Inv.fpOk {X:Cx}{pins:List (Addr ×Obj)}{σ:St}{H H':Hp}{s:Shared}{b:Addr}(I:Inv X pins σ H s)(hb:s.heap.objs.size≤b)(hn:H' b=none):FpOk X pins H' b:=by
 refine ⟨hn,Nat.ne_of_gt (Nat.lt_of_lt_of_le I.lt hb),I.nofs hb,.inr (Nat.le_trans I.sz hb),fun x c e z=>?_,fun p hp z=>?_⟩
 ·obtain ⟨v,q⟩:=I.cell x c e
  exact absurd (Nat.lt_of_lt_of_le q.lt (by rw [z];exact hb)) (Nat.lt_irrefl _)
 ·exact absurd (Nat.lt_of_lt_of_le (Heap.lt_size (I.pin p hp).1) (by rw [z];exact hb)) (Nat.lt_irrefl _)
structure Turn (P:Program)(w:World)(K:PySem.W.Frag)(tg:Expr)(J:It)(fp:List Addr)(it:Addr)(tn:Nat→Heap→Prop):Prop where
 mem:it∈fp
 obj:∀i h,tn i h→∀b∈fp,∃o,h.get? b=some o∧∀v,o.data≠ .cell v
 keep:∀i h h',tn i h→(∀b∈fp,∀o,h.get? b=some o→h'.get? b=some o)→tn i h'
 item:∀(X:Cx),X.prog=P→X.w=w→X.K=K→X.calm=true→∀(i:Nat) (pins:List (Addr ×Obj)) (s:Shared) (σ:St) (H:Hp) (E:Value→Shared→Prop),Inv X pins σ H s→(∀b∈fp,FpOk X pins H b)→tn i s.heap→J.go i H→
  wpAny (model P w) X.A (pyNext (.ref it)) (fun r s1=>∃u,r=some u∧
   wpAny (model P w) X.A (letOwnedTupleGo tg (.ref it) u) (fun _ s2=>∃x H',Inv X pins σ H' s2∧RelV x u∧J.yld i H x H'∧tn (i+1) s2.heap∧∀b∈fp,H' b=none) E s1) E s
 done:∀(X:Cx),X.prog=P→X.w=w→X.K=K→X.calm=true→∀(i:Nat) (pins:List (Addr ×Obj)) (s:Shared) (σ:St) (H:Hp) (E:Value→Shared→Prop),Inv X pins σ H s→(∀b∈fp,FpOk X pins H b)→tn i s.heap→J.stop i H→
  wpAny (model P w) X.A (pyNext (.ref it)) (fun r s1=>r=none∧Inv X pins σ H s1) E s
 self:∀(A:Around) (i:Nat) (s:Shared) (Q:Value→Shared→Prop) (E:Value→Shared→Prop),tn i s.heap→Q (.ref it) s→wpAny (model P w) A (pyIter (.ref it)) Q E s
abbrev TI:=St→Hp→(It→Hp→Prop)→Prop
def PIE (X:Cx)(pins:List (Addr ×Obj))(σ:St)(tg:Expr)(R:It→Hp→Prop)(itv:Value)(s2:Shared):Prop:=
 ∃(it:Addr) (fp:List Addr) (tn:Nat→Heap→Prop) (J:It) (H':Hp),itv=.ref it∧Inv X pins σ H' s2∧Turn X.prog X.w X.K tg J fp it tn∧tn 0 s2.heap∧(∀b∈fp,FpOk X pins H' b)∧R J H'
def PI (X:Cx)(tg iter:Expr)(wi:TI):Prop:=
 ∀(pins:List (Addr ×Obj)) (s:Shared) (σ:St) (H:Hp) (R:It→Hp→Prop),Inv X pins σ H s→wi σ H R→
  wpAny (model X.prog X.w) X.A (eval iter X.env) (fun v s1=>wpAny (model X.prog X.w) X.A (pyIter v) (PIE X pins σ tg R) X.xe s1) X.xe s
theorem zfP {M:Model}{A:Around}{E:Value→Shared→Prop}{s:Shared}{tg:Expr}{it:Addr}{u:Value}{o:Obj}{n:String}{vs:Array Value}{Q:Unit→Shared→Prop}(ho:s.heap.get? it=some o)(hc:o.cls=.type n)(hd:o.data=.fields vs)
  (hn:["enumerate","zip","dict_itemiterator","dict_reverseitemiterator","odict_iterator","itertools.zip_longest","itertools.pairwise"].contains n=false) (hQ:Q () s):wpAny M A (letOwnedTupleGo tg (.ref it) u) Q E s:=by
 unfold letOwnedTupleGo
 cases tg <;> first
  | exact wpAny_pure hQ
  | (cases u <;> first
    | exact wpAny_pure hQ
    | (refine wpAny_bind (wpAny_load ho ?_)
       rw [hc,hd]
       show wpAny M A (if (["enumerate","zip","dict_itemiterator","dict_reverseitemiterator","odict_iterator","itertools.zip_longest","itertools.pairwise"].contains n && vs[0]? ==some (rawInt _))=true then _ else _) Q E s
       rw [if_neg (by intro h;rw [hn,Bool.false_and] at h;cases h)]
       exact wpAny_pure hQ))
def Itl (K:PySem.W.Frag)(a:Addr):It:=
 ⟨fun i H=>∃xs x,SqL K H a xs∧xs[i]? =some x,fun i H x H'=>H'=H∧∀xs,SqL K H a xs→xs[i]? =some x,fun i H=>∃xs,SqL K H a xs∧xs.length≤i⟩
def Itt (K:PySem.W.Frag)(a:Addr):It:=
 ⟨fun i H=>∃xs x,SqT K H a xs∧xs[i]? =some x,fun i H x H'=>H'=H∧∀xs,SqT K H a xs→xs[i]? =some x,fun i H=>∃xs,SqT K H a xs∧xs.length≤i⟩
def Itr (lo:Int)(n:Nat):It:=⟨fun i _=>i < n,fun i H x H'=>H'=H∧x=.int (lo+i),fun i _=>n≤i⟩
theorem zic {P:Program}{w:World}{K:PySem.W.Frag}{tg:Expr}(a it:Addr):Turn P w K tg (Itl K a) [it] it (fun i h=>h.IsListIter it a i) where
 mem:=by simp
 obj:=fun i h st b hb=>by
  have e:b=it:=by simpa using hb
  subst e
  obtain ⟨o,e,c,d⟩:=st
  exact ⟨o,e,fun v z=>by rw [d] at z;cases z⟩
 keep:=fun i h h' st k=>st.at fun o e=>k it (by simp) o e
 item:=by
  intro X hP hw hK hc i pins s σ H E I hf st hg
  subst hP hw hK
  obtain ⟨xs,x,hq,hx⟩:=hg
  obtain ⟨its,rv,p,hz⟩:=I.list hq
  obtain ⟨u,hu,ru⟩:=rv.get hx
  obtain ⟨f0,f1,f2,f3,f4,f5⟩:=hf it (by simp)
  refine wpAny_pyNext_list_item st p.isList (x:=u) (by simpa using hu) fun h' st' sb=>?_
  have I1:Inv X pins σ H {s with heap:=h'}:=I.turned (t':=s.toks) (fun b o hb e=>(sb.2 b hb).trans e) f0 f1 f3 f4 f5
  obtain ⟨o,e,c,d⟩:=id st'
  exact ⟨u,rfl,zfP (s:={s with heap:=h'}) e c d (by decide) ⟨x,H,I1,ru,⟨rfl,fun ys hy=>by rw [I.list_inj hy hq];exact hx⟩,st',fun b hb=>(hf b hb).1⟩⟩
 done:=by
  intro X hP hw hK hc i pins s σ H E I hf st hg
  subst hP hw hK
  obtain ⟨xs,hq,hx⟩:=hg
  obtain ⟨its,rv,p,hz⟩:=I.list hq
  obtain ⟨f0,f1,f2,f3,f4,f5⟩:=hf it (by simp)
  have hl:=rv.length
  exact wpAny_pyNext_list_end (I.ok.hd hc) st p.isList (by simp;omega) fun h' eb=>⟨rfl,I.turned (t':=s.toks) (fun b o hb e=>eb b o hb e) f0 f1 f3 f4 f5⟩
 self:=fun _ _ _ _ _ st h=>wpAny_pyIter_listiter st h
theorem zge {P:Program}{w:World}{K:PySem.W.Frag}{tg:Expr}(a it:Addr):Turn P w K tg (Itt K a) [it] it (fun i h=>h.IsTupleIter it a i) where
 mem:=by simp
 obj:=fun i h st b hb=>by
  have e:b=it:=by simpa using hb
  subst e
  obtain ⟨o,e,c,d⟩:=st
  exact ⟨o,e,fun v z=>by rw [d] at z;cases z⟩
 keep:=fun i h h' st k=>st.at fun o e=>k it (by simp) o e
 item:=by
  intro X hP hw hK hc i pins s σ H E I hf st hg
  subst hP hw hK
  obtain ⟨xs,x,hq,hx⟩:=hg
  obtain ⟨its,rv,p,hz⟩:=I.tuple hq
  obtain ⟨u,hu,ru⟩:=rv.get hx
  obtain ⟨f0,f1,f2,f3,f4,f5⟩:=hf it (by simp)
  refine wpAny_pyNext_tuple_item st (show s.heap.IsTuple a its.toArray from p) (x:=u) (by simpa using hu) fun h' st' sb=>?_
  have I1:Inv X pins σ H {s with heap:=h'}:=I.turned (t':=s.toks) (fun b o hb e=>(sb.2 b hb).trans e) f0 f1 f3 f4 f5
  obtain ⟨o,e,c,d⟩:=id st'
  exact ⟨u,rfl,zfP (s:={s with heap:=h'}) e c d (by decide) ⟨x,H,I1,ru,⟨rfl,fun ys hy=>by rw [I.tuple_inj hy hq];exact hx⟩,st',fun b hb=>(hf b hb).1⟩⟩
 done:=by
  intro X hP hw hK hc i pins s σ H E I hf st hg
  subst hP hw hK
  obtain ⟨xs,hq,hx⟩:=hg
  obtain ⟨its,rv,p,hz⟩:=I.tuple hq
  obtain ⟨f0,f1,f2,f3,f4,f5⟩:=hf it (by simp)
  have hl:=rv.length
  exact wpAny_pyNext_tuple_end (I.ok.hd hc) st (show s.heap.IsTuple a its.toArray from p) (by simp;omega) fun h' eb=>⟨rfl,I.turned (t':=s.toks) (fun b o hb e=>eb b o hb e) f0 f1 f3 f4 f5⟩
 self:=fun _ _ _ _ _ st h=>wpAny_pyIter_tupleiter st h
theorem zgi {P:Program}{w:World}{K:PySem.W.Frag}{tg:Expr}(it:Addr)(lo:Int)(n:Nat):Turn P w K tg (Itr lo n) [it] it (fun i h=>IsRangeIter h it (lo+(i:Nat) * 1) ((n:Int) - (i:Nat)) 1) where
 mem:=by simp
 obj:=fun i h st b hb=>by
  have e:b=it:=by simpa using hb
  subst e
  exact ⟨_,st,fun v z=>by
   have z':Data.fields _=Data.cell v:=z
   cases z'⟩
 keep:=fun i h h' st k=>k it (by simp) _ st
 item:=by
  intro X hP hw hK hc i pins s σ H E I hf st hg
  subst hP hw hK
  obtain ⟨f0,f1,f2,f3,f4,f5⟩:=hf it (by simp)
  have W:=Walks.range (prog:=X.prog) (w:=X.w) (I.ok.hd hc) it lo 1 n
  refine W.item i s _ _ hg st fun v h' tk hv st' kk=>?_
  obtain ⟨t,rfl⟩:=hv
  have I1:Inv X pins σ H {s with heap:=h',toks:=tk}:=I.turned (fun b o hb e=>kk b o (by simpa using hb) e) f0 f1 f3 f4 f5
  refine ⟨_,rfl,zfP (s:={s with heap:=h',toks:=tk}) (n:= "range_iterator") st' rfl rfl (by decide) ⟨.int (lo+i),H,I1,⟨t,?_⟩,⟨rfl,rfl⟩,st',fun b hb=>(hf b hb).1⟩⟩
  rw [Int.mul_one]
 done:=by
  intro X hP hw hK hc i pins s σ H E I hf st hg
  subst hP hw hK
  obtain ⟨f0,f1,f2,f3,f4,f5⟩:=hf it (by simp)
  exact wpAny_pyNext_range_end (I.ok.hd hc) st (by have:n≤i:=hg;omega) fun h' eb=>⟨rfl,I.turned (t':=s.toks) (fun b o hb e=>eb b o hb e) f0 f1 f3 f4 f5⟩
 self:=fun _ _ _ _ _ st h=>wpAny_pyIter_rangeiter st h
end L2
namespace L2
open PySem PySem.Spec PyProof.Rows
section
variable {X:Cx}{tg:Expr}
def zmc (K:PySem.W.Frag)(tl:TE):TI:=fun σ H R=>tl σ H fun x H1=>∃a,x=.ref a∧(∃xs,SqL K H1 a xs)∧R (Itl K a) H1
def iTup (K:PySem.W.Frag)(tl:TE):TI:=fun σ H R=>tl σ H fun x H1=>∃a,x=.ref a∧(∃xs,SqT K H1 a xs)∧R (Itt K a) H1
theorem zcz {l:Expr}{tl:TE}(hl:PE X l tl):PI X tg l (zmc X.K tl):=by
 intro pins s σ H R I h
 refine thn (hl pins s σ H _ I h) fun v s1 ⟨x,H1,I1,r1,q1⟩=>?_
 obtain ⟨a,e,⟨xs,hq⟩,q⟩:=q1
 subst e
 cases r1
 obtain ⟨its,rv,p,hz⟩:=I1.list hq
 refine wpAny_pyIter_list p.isList ?_
 refine ⟨s1.heap.objs.size,[s1.heap.objs.size],_,_,H1,rfl,I1.kept (t':=s1.toks) fun b o e=>Heap.get?_push_of_some _ e,zic a _,⟨_,Heap.get?_push_size _ rfl,rfl,rfl⟩,fun b hb=>?_,q⟩
 have e:b=s1.heap.objs.size:=by simpa using hb
 subst e
 exact I1.fpOk (Nat.le_refl _) (I1.hok.fresh (Nat.le_refl _))
theorem zjD {l:Expr}{tl:TE}(hl:PE X l tl):PI X tg l (iTup X.K tl):=by
 intro pins s σ H R I h
 refine thn (hl pins s σ H _ I h) fun v s1 ⟨x,H1,I1,r1,q1⟩=>?_
 obtain ⟨a,e,⟨xs,hq⟩,q⟩:=q1
 subst e
 cases r1
 obtain ⟨its,rv,p,hz⟩:=I1.tuple hq
 refine wpAny_pyIter_tuple (show s1.heap.IsTuple a its.toArray from p) ?_
 refine ⟨s1.heap.objs.size,[s1.heap.objs.size],_,_,H1,rfl,I1.kept (t':=s1.toks) fun b o e=>Heap.get?_push_of_some _ e,zge a _,⟨_,Heap.get?_push_size _ rfl,rfl,rfl⟩,fun b hb=>?_,q⟩
 have e:b=s1.heap.objs.size:=by simpa using hb
 subst e
 exact I1.fpOk (Nat.le_refl _) (I1.hok.fresh (Nat.le_refl _))
theorem zjw {pins:List (Addr ×Obj)}{σ:St}{H:Hp}{s:Shared}{R:It→Hp→Prop}{E:Value→Shared→Prop}{lo hi:Int}{t u v:Tok}{tk:Nat}(I:Inv X pins σ H s)(h1: -(2 ^ 62)≤lo)(h2:lo < 2 ^ 62)(h3: -(2 ^ 62)≤hi)(h4:hi < 2 ^ 62)
  (q:R (Itr lo (hi - lo).toNat) H):wpAny (model X.prog X.w) X.A (pyIter (.ref s.heap.objs.size)) (PIE X pins σ tg R) E {s with heap:=s.heap.push {cls:=.type "range",data:=.fields #[.int lo t,.int hi u,.int 1 v]},toks:=tk}:=by
 refine wpAny_pyIter_range (IsRange.new ..) (small_one h1 h2 h3 h4) ?_
 have I1:Inv X pins σ H {s with heap:=s.heap.push {cls:=.type "range",data:=.fields #[.int lo t,.int hi u,.int 1 v]},toks:=tk}:=I.kept fun b o e=>Heap.get?_push_of_some _ e
 refine ⟨(s.heap.push {cls:=.type "range",data:=.fields #[.int lo t,.int hi u,.int 1 v]}).objs.size,[(s.heap.push {cls:=.type "range",data:=.fields #[.int lo t,.int hi u,.int 1 v]}).objs.size],_,_,H,rfl,
  I1.kept (t':=tk) fun b o e=>Heap.get?_push_of_some _ e,zgi _ lo (hi - lo).toNat,?_,fun b hb=>?_,q⟩
 ·have e1:lo+((0:Nat):Int) * 1=lo:=by simp
  have e2:(((hi - lo).toNat:Nat):Int) - ((0:Nat):Int)=Builtin.Range.rangeSize lo hi 1:=by rw [rangeSize_one];split <;> omega
  show IsRangeIter _ _ (lo+((0:Nat):Int) * 1) ((((hi - lo).toNat:Nat):Int) - ((0:Nat):Int)) 1
  rw [e1,e2]
  exact Heap.get?_push_size _ rfl
 ·have e:b=(s.heap.push {cls:=.type "range",data:=.fields #[.int lo t,.int hi u,.int 1 v]}).objs.size:=by simpa using hb
  subst e
  exact I1.fpOk (Nat.le_refl _) (I1.hok.fresh (Nat.le_refl _))
def zme (ta:TA):TI:=fun σ H R=>ta σ H fun vs H1=>∃j:Int,vs=[.int j]∧ -(2 ^ 62)≤j∧j < 2 ^ 62∧R (Itr 0 j.toNat) H1
def znk (ta:TA):TI:=fun σ H R=>ta σ H fun vs H1=>∃i j:Int,vs=[.int i,.int j]∧(-(2 ^ 62)≤i∧i < 2 ^ 62∧ -(2 ^ 62)≤j∧j < 2 ^ 62)∧R (Itr i (j - i).toNat) H1
theorem zhw {a:Expr}{ta:TA}{p pos:Pos}(hg:Gl X "range") (hm:X.mg "range" =none) (ha:PA X [a] ta) (hs:starEach [a] X.env=[(false,eval a X.env)]:=by rfl):PI X tg (.Call (.Name "range" p) [a] [] pos) (zme ta):=by
 intro pins s σ H R I h
 refine Call_ (zdd I hg hm boot_range (PyProof.Rows.callWith_type1 (thn (ha pos pins s σ H _ I h) fun us s1 ⟨vs,H1,I1,r1,q1⟩=>?_) hs rfl))
 obtain ⟨j,e,q1,q2,q⟩:=q1
 subst e
 cases r1 with
 | cons r rr=>
  cases rr
  obtain ⟨t,rfl⟩:=r
  exact call_range_1 (zjw I1 (by omega) (by omega) q1 q2 (by simpa using q))
def tFor (wi:TI)(g:TG)(tb:TS):TS:=fun D σ H=>wi σ H fun J H1=>∃W:Nat→Nat→St→Hp→Prop,(∃m,W 0 m σ H1)∧∀i m σ H,W i m σ H→
 (J.stop i H∧D.nx σ H)∨(J.go i H∧∃N:St→Hp→Prop,(∀σ' H',N σ' H'→∃m',m' < m∧W (i+1) m' σ' H')∧∀x H',J.yld i H x H'→g x σ H' fun σ2 H2=>tb {D with nx:=N,ct:=N,bk:=D.nx} σ2 H2)
def zdW (fp:List Addr)(h:Heap):List (Addr ×Obj):=fp.filterMap fun b=>(h.get? b).map fun o=>(b,o)
theorem zb9 {fp:List Addr}{h:Heap}{b:Addr}{o:Obj}(hb:b∈fp)(e:h.get? b=some o):(b,o)∈zdW fp h:=List.mem_filterMap.mpr ⟨b,hb,by rw [e];rfl⟩
theorem zh2 {fp:List Addr}{h:Heap}{p:Addr ×Obj}(hp:p∈zdW fp h):p.1∈fp∧h.get? p.1=some p.2:=by
 obtain ⟨b,hb,e⟩:=List.mem_filterMap.mp hp
 cases q:h.get? b with
 | none=>rw [q] at e;cases e
 | some o=>
  rw [q] at e
  have e':(b,o)=p:=Option.some.inj e
  subst e'
  exact ⟨hb,q⟩
theorem Inv.pinned {pins:List (Addr ×Obj)}{σ:St}{H:Hp}{s:Shared}{fp:List Addr}(I:Inv X pins σ H s)(hf:∀b∈fp,FpOk X pins H b)(ho:∀b∈fp,∃o,s.heap.get? b=some o∧∀v,o.data≠ .cell v):Inv X (pins++zdW fp s.heap) σ H s:=
 I.pins_of fun p hp=>(List.mem_append.mp hp).elim (fun z=>I.pin p (List.mem_append_right _ z)) fun z=>by
  obtain ⟨hb,e⟩:=zh2 z
  obtain ⟨f0,f1,f2,_⟩:=hf p.1 hb
  obtain ⟨o,e',d⟩:=ho p.1 hb
  rw [e] at e';cases e'
  exact ⟨e,f0,f1,f2,d⟩
theorem Inv.unpinned {pins pl:List (Addr ×Obj)}{σ:St}{H:Hp}{s:Shared}(I:Inv X (pins++pl) σ H s):Inv X pins σ H s:=I.pins_of fun p hp=>I.pin p (List.mem_append_right _ (List.mem_append_left _ hp))
theorem zbm {iter:Expr}{body:List Stmt}{wi:TI}{g:TG}{tb:TS}{pos:Pos}(hp:PassesOwn (model X.prog X.w) X.A X.env X.xe)(hc:X.calm=true)(hi:PI X tg iter wi)(hg:PG X tg g)(hb:PSs X body tb)
  (hs:∀x,foldedSetIterable iter X.env x=pure x:=by intro _;rfl):PS X (.For tg iter body [] pos) (tFor wi g tb):=by
 intro pins s σ H D I h
 refine wpAny_For (thn (hi pins s σ H _ I h) fun v s1 h1=>thn h1 fun itv s2 h2=>?_) hs
 obtain ⟨it,fp,tn,J,H2,e,I2,T,st2,f2,W,⟨m0,w0⟩,turn⟩:=h2
 subst e
 have stat:∀{H':Hp},(∀b∈fp,H' b=none)→∀b∈fp,FpOk X pins H' b:=fun hn b hb=>⟨hn b hb,(f2 b hb).2⟩
 refine codeAny_forLoop_any (fun n s'=>∃i σ' H',Inv X pins σ' H' s'∧tn i s'.heap∧(∀b∈fp,H' b=none)∧W i n σ' H') ?_ m0 ⟨0,σ,H2,I2,st2,fun b hb=>(f2 b hb).1,w0⟩
 rintro n s3 ⟨i,σ3,H3,I3,st3,fr3,w3⟩
 rcases turn i n σ3 H3 w3 with ⟨stop,qn⟩ | ⟨go,N,hN,step⟩
 ·refine wpAny_passesOwn hp (thn (T.done X rfl rfl rfl hc i pins s3 σ3 H3 X.xe I3 (stat fr3) st3 stop) fun r s4 ⟨hr,I4⟩=>?_)
  subst hr
  exact wpAny_execs_nil ⟨σ3,H3,I4,qn⟩
 ·refine wpAny_passesOwn hp (thn (T.item X rfl rfl rfl hc i pins s3 σ3 H3 X.xe I3 (stat fr3) st3 go) fun r s4 ⟨u,hr,h4⟩=>?_)
  subst hr
  refine wpAny_passesOwn hp (thn h4 fun _ s5 ⟨x,H5,I5,r5,y5,st5,fr5⟩=>?_)
  have I5':=I5.pinned (stat fr5) (T.obj _ _ st5)
  refine wpAny_passesOwn hp (thn (hg _ s5 σ3 H5 x u _ I5' r5 (step x H5 y5)) fun _ s6 ⟨σ6,H6,I6,q6⟩=>?_)
  refine wpAny_passesOwn hp (thn (hb _ s6 σ6 H6 _ I6 q6) fun f s7 q7=>?_)
  have again:∀{σ7:St} {H7:Hp},Inv X (pins++zdW fp s5.heap) σ7 H7 s7→N σ7 H7→∃m,m < n∧∃i σ' H',Inv X pins σ' H' s7∧tn i s7.heap∧(∀b∈fp,H' b=none)∧W i m σ' H':=fun {σ7 H7} I7 n7=>by
   obtain ⟨m',hm,w7⟩:=hN σ7 H7 n7
   refine ⟨m',hm,i+1,σ7,H7,I7.unpinned,T.keep _ _ _ st5 fun b hb o e=>(I7.pin (b,o) (List.mem_append_right _ (List.mem_append_right _ (zb9 hb e)))).1,fun b hb=>?_,w7⟩
   obtain ⟨o,e,d⟩:=T.obj _ _ st5 b hb
   exact (I7.pin (b,o) (List.mem_append_right _ (List.mem_append_right _ (zb9 hb e)))).2.1
  cases f with
  | next=>obtain ⟨σ7,H7,I7,n7⟩:=q7;exact again I7 n7
  | cont=>obtain ⟨σ7,H7,I7,n7⟩:=q7;exact again I7 n7
  | brk=>obtain ⟨σ7,H7,I7,q7⟩:=q7;exact ⟨σ7,H7,I7.unpinned,q7⟩
  | ret v=>obtain ⟨x7,σ7,H7,I7,r7,q7⟩:=q7;exact ⟨x7,σ7,H7,I7.unpinned,r7,q7⟩
end
theorem zcv {K:PySem.W.Frag}{a:Addr}{xs:List V}{g:TG}{tb:TS}{D:Ends}{σ:St}{H:Hp}(Pv:Nat→St→Hp→Prop)(h0:Pv 0 σ H)(hl:∀i σ H,i≤xs.length→Pv i σ H→SqL K H a xs)
  (hs:∀i x σ H,xs[i]? =some x→Pv i σ H→g x σ H fun σ2 H2=>tb {D with nx:=Pv (i+1),ct:=Pv (i+1),bk:=D.nx} σ2 H2) (hd:∀σ H,Pv xs.length σ H→D.nx σ H):
  ∃W:Nat→Nat→St→Hp→Prop,(∃m,W 0 m σ H)∧∀i m σ H,W i m σ H→
   ((Itl K a).stop i H∧D.nx σ H)∨((Itl K a).go i H∧∃N:St→Hp→Prop,(∀σ' H',N σ' H'→∃m',m' < m∧W (i+1) m' σ' H')∧∀x H',(Itl K a).yld i H x H'→g x σ H' fun σ2 H2=>tb {D with nx:=N,ct:=N,bk:=D.nx} σ2 H2):=by
 refine ⟨fun i m σ H=>m=xs.length - i∧i≤xs.length∧Pv i σ H,⟨xs.length,by simp,Nat.zero_le _,h0⟩,?_⟩
 rintro i m σ H ⟨rfl,hi,p⟩
 have q:=hl i σ H hi p
 by_cases hlt:i < xs.length
 ·refine .inr ⟨⟨xs,xs[i],q,by simp [hlt]⟩,Pv (i+1),fun σ' H' p'=>⟨xs.length - (i+1),by omega,rfl,hlt,p'⟩,fun x H' y=>?_⟩
  obtain ⟨e,y⟩:=y
  subst e
  exact hs i x σ _ (y xs q) p
 ·have e:i=xs.length:=by omega
  subst e
  exact .inl ⟨⟨xs,q,Nat.le_refl _⟩,hd σ H p⟩
theorem zgI {K:PySem.W.Frag}{a:Addr}{xs:List V}{g:TG}{tb:TS}{D:Ends}{σ:St}{H:Hp}(Pv:Nat→St→Hp→Prop)(h0:Pv 0 σ H)(hl:∀i σ H,i≤xs.length→Pv i σ H→SqT K H a xs)
  (hs:∀i x σ H,xs[i]? =some x→Pv i σ H→g x σ H fun σ2 H2=>tb {D with nx:=Pv (i+1),ct:=Pv (i+1),bk:=D.nx} σ2 H2) (hd:∀σ H,Pv xs.length σ H→D.nx σ H):
  ∃W:Nat→Nat→St→Hp→Prop,(∃m,W 0 m σ H)∧∀i m σ H,W i m σ H→
   ((Itt K a).stop i H∧D.nx σ H)∨((Itt K a).go i H∧∃N:St→Hp→Prop,(∀σ' H',N σ' H'→∃m',m' < m∧W (i+1) m' σ' H')∧∀x H',(Itt K a).yld i H x H'→g x σ H' fun σ2 H2=>tb {D with nx:=N,ct:=N,bk:=D.nx} σ2 H2):=by
 refine ⟨fun i m σ H=>m=xs.length - i∧i≤xs.length∧Pv i σ H,⟨xs.length,by simp,Nat.zero_le _,h0⟩,?_⟩
 rintro i m σ H ⟨rfl,hi,p⟩
 have q:=hl i σ H hi p
 by_cases hlt:i < xs.length
 ·refine .inr ⟨⟨xs,xs[i],q,by simp [hlt]⟩,Pv (i+1),fun σ' H' p'=>⟨xs.length - (i+1),by omega,rfl,hlt,p'⟩,fun x H' y=>?_⟩
  obtain ⟨e,y⟩:=y
  subst e
  exact hs i x σ _ (y xs q) p
 ·have e:i=xs.length:=by omega
  subst e
  exact .inl ⟨⟨xs,q,Nat.le_refl _⟩,hd σ H p⟩
theorem zhK {lo:Int}{n:Nat}{g:TG}{tb:TS}{D:Ends}{σ:St}{H:Hp}(Pv:Nat→St→Hp→Prop)(h0:Pv 0 σ H)
  (hs:∀i σ H,i < n→Pv i σ H→g (.int (lo+i)) σ H fun σ2 H2=>tb {D with nx:=Pv (i+1),ct:=Pv (i+1),bk:=D.nx} σ2 H2) (hd:∀σ H,Pv n σ H→D.nx σ H):
  ∃W:Nat→Nat→St→Hp→Prop,(∃m,W 0 m σ H)∧∀i m σ H,W i m σ H→
   ((Itr lo n).stop i H∧D.nx σ H)∨((Itr lo n).go i H∧∃N:St→Hp→Prop,(∀σ' H',N σ' H'→∃m',m' < m∧W (i+1) m' σ' H')∧∀x H',(Itr lo n).yld i H x H'→g x σ H' fun σ2 H2=>tb {D with nx:=N,ct:=N,bk:=D.nx} σ2 H2):=by
 refine ⟨fun i m σ H=>m=n - i∧i≤n∧Pv i σ H,⟨n,by simp,Nat.zero_le _,h0⟩,?_⟩
 rintro i m σ H ⟨rfl,hi,p⟩
 by_cases hlt:i < n
 ·refine .inr ⟨hlt,Pv (i+1),fun σ' H' p'=>⟨n - (i+1),by omega,rfl,hlt,p'⟩,fun x H' y=>?_⟩
  obtain ⟨e,y⟩:=y
  subst e y
  exact hs i σ _ hlt p
 ·have e:i=n:=by omega
  subst e
  exact .inl ⟨Nat.le_refl _,hd σ H p⟩
end L2
namespace L2
open PySem PySem.Spec PyProof.Rows
abbrev R2:=V→V→Hp→VK→Prop
def OpR (X:Cx)(f:Value→Value→Sem Value)(r:R2):Prop:=
 ∀(pins:List (Addr ×Obj)) (s:Shared) (σ:St) (H:Hp) (x y:V) (v u:Value) (Q:VK),Inv X pins σ H s→RelV x v→RelV y u→r x y H Q→
  wpAny (model X.prog X.w) X.A (f v u) (EP X pins σ Q) X.xe s
def UnR (X:Cx)(f:Value→Sem Value)(r:V→Hp→VK→Prop):Prop:=
 ∀(pins:List (Addr ×Obj)) (s:Shared) (σ:St) (H:Hp) (x:V) (v:Value) (Q:VK),Inv X pins σ H s→RelV x v→r x H Q→
  wpAny (model X.prog X.w) X.A (f v) (EP X pins σ Q) X.xe s
def zaW (X:Cx)(f:Value)(r:List V→Hp→VK→Prop):Prop:=
 ∀(pins:List (Addr ×Obj)) (s:Shared) (σ:St) (H:Hp) (xs:List V) (us:List Value) (Q:VK),Inv X pins σ H s→Vals xs us→r xs H Q→
  wpAny (model X.prog X.w) X.A (call f us) (EP X pins σ Q) X.xe s
def TruR (X:Cx)(r:V→Hp→(Bool→Hp→Prop)→Prop):Prop:=
 ∀(pins:List (Addr ×Obj)) (s:Shared) (σ:St) (H:Hp) (x:V) (v:Value) (Q:Bool→Hp→Prop),Inv X pins σ H s→RelV x v→r x H Q→
  wpAny (model X.prog X.w) X.A (truthy v) (TP X pins σ Q) X.xe s
def tOp (r:R2)(ta tb:TE):TE:=fun σ H Q=>ta σ H fun x H1=>tb σ H1 fun y H2=>r x y H2 Q
def tUn (r:V→Hp→VK→Prop)(ta:TE):TE:=fun σ H Q=>ta σ H fun x H1=>r x H1 Q
def rI (C:Int→Int→Prop)(g:Int→Int→V):R2:=fun x y H Q=>∃i j,x=.int i∧y=.int j∧C i j∧Q (g i j) H
def rI0 (g:Int→Int→V):R2:=fun x y H Q=>∃i j,x=.int i∧y=.int j∧Q (g i j) H
def rU (g:Int→V):V→Hp→VK→Prop:=fun x H Q=>∃i,x=.int i∧Q (g i) H
section
variable {X:Cx}{a b c:Expr}{ta tb tc:TE}{pos:Pos}
theorem binT (ha:PE X a ta)(hb:PE X b tb){pins:List (Addr ×Obj)}{s:Shared}{σ:St}{H:Hp}{R:V→V→Hp→Prop}(I:Inv X pins σ H s)
  (h:ta σ H fun x H1=>tb σ H1 fun y H2=>R x y H2) {Q:Value→Shared→Prop} {f:Value→Value→Sem Value}
  (hf:∀v u s2 x y H2,Inv X pins σ H2 s2→RelV x v→RelV y u→R x y H2→wpAny (model X.prog X.w) X.A (f v u) Q X.xe s2):
  wpAny (model X.prog X.w) X.A (eval a X.env) (fun v s₁=>wpAny (model X.prog X.w) X.A (eval b X.env) (fun u s₂=>wpAny (model X.prog X.w) X.A (f v u) Q X.xe s₂) X.xe s₁) X.xe s:=by
 refine thn (ha pins s σ H _ I h) fun v s1 ⟨x,H1,I1,r1,q1⟩=>?_
 refine thn (hb pins s1 σ H1 _ I1 q1) fun u s2 ⟨y,H2,I2,r2,q2⟩=>?_
 exact hf v u s2 x y H2 I2 r1 r2 q2
theorem zA {op:Operator}{r:R2}(ho:OpR X (binaryOp op) r)(ha:PE X a ta)(hb:PE X b tb):PE X (.BinOp a op b pos) (tOp r ta tb):=by
 intro pins s σ H Q I h
 exact wpAny_BinOp (binT ha hb I h fun v u s2 x y H2 I2 rx ry q=>ho pins s2 σ H2 x y v u Q I2 rx ry q)
theorem zdr {op:UnaryOp}{r:V→Hp→VK→Prop}(ho:UnR X (unaryOp op) r)(ha:PE X a ta):PE X (.UnaryOp op a pos) (tUn r ta):=by
 intro pins s σ H Q I h
 exact UnaryOp_ (thn (ha pins s σ H _ I h) fun v s1 ⟨x,H1,I1,r1,q1⟩=>ho pins s1 σ H1 x v Q I1 r1 q1)
theorem opI {f:Value→Value→Sem Value}{C:Int→Int→Prop}{g:Int→Int→Int}
  (rule:∀(i j:Int) (t u:Tok) (s:Shared) (Q:Value→Shared→Prop) (E:Value→Shared→Prop),C i j→Q (.int (g i j) s.toks) {s with toks:=s.toks+1}→wpAny (model X.prog X.w) X.A (f (.int i t) (.int j u)) Q E s):
  OpR X f (rI C fun i j=>.int (g i j)):=by
 intro pins s σ H x y v u Q I rx ry h
 obtain ⟨i,j,rfl,rfl,hc,q⟩:=h
 obtain ⟨t,rfl⟩:=rx
 obtain ⟨t',rfl⟩:=ry
 exact rule i j t t' s _ _ hc ⟨.int (g i j),H,I.tok _,⟨_,rfl⟩,q⟩
theorem opI0 {f:Value→Value→Sem Value}{g:Int→Int→Int}
  (rule:∀(i j:Int) (t u:Tok) (s:Shared) (Q:Value→Shared→Prop) (E:Value→Shared→Prop),Q (.int (g i j) s.toks) {s with toks:=s.toks+1}→wpAny (model X.prog X.w) X.A (f (.int i t) (.int j u)) Q E s):
  OpR X f (rI0 fun i j=>.int (g i j)):=by
 intro pins s σ H x y v u Q I rx ry h
 obtain ⟨i,j,rfl,rfl,q⟩:=h
 obtain ⟨t,rfl⟩:=rx
 obtain ⟨t',rfl⟩:=ry
 exact rule i j t t' s _ _ ⟨.int (g i j),H,I.tok _,⟨_,rfl⟩,q⟩
theorem opB0 {f:Value→Value→Sem Value}{g:Int→Int→Bool}
  (rule:∀(i j:Int) (t u:Tok) (s:Shared) (Q:Value→Shared→Prop) (E:Value→Shared→Prop),Q (.bool (g i j)) s→wpAny (model X.prog X.w) X.A (f (.int i t) (.int j u)) Q E s):
  OpR X f (rI0 fun i j=>.bl (g i j)):=by
 intro pins s σ H x y v u Q I rx ry h
 obtain ⟨i,j,rfl,rfl,q⟩:=h
 obtain ⟨t,rfl⟩:=rx
 obtain ⟨t',rfl⟩:=ry
 exact rule i j t t' s _ _ ⟨.bl (g i j),H,I,rfl,q⟩
def CDiv (i j:Int):Prop:=0 < j∧j < 1073741824
def znv (i j:Int):Prop:=j≠0∧j.natAbs < 1073741824
def CPow (i j:Int):Prop:=0≤j∧j≤1000000∧i.natAbs < 2 ^ 64
def CMul (i j:Int):Prop:=(-(2 ^ 64) < i∧i < 2 ^ 64)∨(-(2 ^ 64) < j∧j < 2 ^ 64)
theorem CMul.ok {i j:Int}(h:CMul i j):IntMulOk i j:=by
 rcases h with ⟨h1,h2⟩ | ⟨h1,h2⟩
 ·exact .of_left (intBits_le_64 h1 h2)
 ·exact .of_right (intBits_le_64 h1 h2)
theorem zT:OpR X (binaryOp .Add) (rI0 fun i j=>.int (i+j)):=opI0 fun _ _ _ _ _ _ _ q=>add_int q
theorem zbK:OpR X (binaryOp .Sub) (rI0 fun i j=>.int (i - j)):=opI0 fun _ _ _ _ _ _ _ q=>sub_int q
theorem zc8:OpR X (binaryOp .Mult) (rI CMul fun i j=>.int (i * j)):=opI fun _ _ _ _ _ _ _ hc q=>mul_int q hc.ok
theorem zb5:OpR X (binaryOp .Mod) (rI (fun _ j=>0 < j) fun i j=>.int (i % j)):=opI fun i j _ _ _ _ _ hc q=>by
 have h1:(0:Int) < j:=hc
 exact mod_int' (by omega) (by rw [Int.fmod_eq_emod_of_nonneg i (by omega)];exact q)
theorem zcQ:OpR X (binaryOp .Pow) (rI CPow fun i j=>.int (i ^ j.toNat)):=opI fun _ _ _ _ _ _ _ hc q=>pow_int_small hc.1 hc.2.1 hc.2.2 q
theorem unI {f:Value→Sem Value}{g:Int→Int}
  (rule:∀(i:Int) (t:Tok) (s:Shared) (Q:Value→Shared→Prop) (E:Value→Shared→Prop),Q (.int (g i) s.toks) {s with toks:=s.toks+1}→wpAny (model X.prog X.w) X.A (f (.int i t)) Q E s):
  UnR X f (rU fun i=>.int (g i)):=by
 intro pins s σ H x v Q I rx h
 obtain ⟨i,rfl,q⟩:=h
 obtain ⟨t,rfl⟩:=rx
 exact rule i t s _ _ ⟨.int (g i),H,I.tok _,⟨_,rfl⟩,q⟩
theorem zco:UnR X (unaryOp .USub) (rU fun i=>.int (-i)):=unI fun _ _ _ _ _ q=>neg_int q
end
def scal:V→V→Bool
 | .non,.non=>true | .non,.int _=>true | .int _,.non=>true | .non,.bl _=>true | .bl _,.non=>true | .non,.str _=>true | .str _,.non=>true
 | .int _,.int _=>true | .bl _,.bl _=>true | .str _,.str _=>true | .byt _,.byt _=>true
 | .int _,.str _=>true | .str _,.int _=>true | .bl _,.str _=>true | .str _,.bl _=>true
 | _,_=>false
def rEq:R2:=fun x y H Q=>scal x y=true∧Q (.bl (decide (x=y))) H
def rNe:R2:=fun x y H Q=>scal x y=true∧Q (.bl (!decide (x=y))) H
theorem zgJ {i j:Int}:decide (V.int i=V.int j)=(i==j):=by
 rw [Bool.eq_iff_iff]
 simp
theorem zji {i j:Bool}:decide (V.bl i=V.bl j)=(i==j):=by
 rw [Bool.eq_iff_iff]
 simp
theorem zgO {i j:Str}:decide (V.str i=V.str j)=(i==j):=by
 rw [Bool.eq_iff_iff]
 simp
theorem zha {i j:Array UInt8}:decide (V.byt i=V.byt j)=(i.toList==j.toList):=by
 rw [Bool.eq_iff_iff]
 cases i
 cases j
 simp
section
variable {X:Cx}{a b c:Expr}{ta tb tc:TE}{pos:Pos}
theorem zM {pins:List (Addr ×Obj)}{σ:St}{H:Hp}{s:Shared}{Q:VK}{k k':Bool}(I:Inv X pins σ H s)(q:Q (.bl k) H)(e:k=k'):EP X pins σ Q (.bool k') s:=by
 subst e
 exact ⟨.bl k,H,I,rfl,q⟩
theorem zaO:OpR X (compareOp .Eq) rEq:=by
 intro pins s σ H x y v u Q I rx ry h
 obtain ⟨hs,q⟩:=h
 cases x with
 | non=>
  cases rx
  cases y with
  | non=>cases ry;exact PySem.EqNone.eq_none_none (zM I q (by simp))
  | bl j=>cases ry;exact PySem.EqNone.eq_none_bool (zM I q (by simp))
  | int j=>obtain ⟨t',rfl⟩:=ry;exact PySem.EqNone.eq_none_int (zM I q (by simp))
  | str j=>obtain ⟨t',rfl⟩:=ry;exact PySem.EqNone.eq_none_str (zM I q (by simp))
  | _=>exact absurd (show false=true from hs) Bool.false_ne_true
 | bl i=>
  cases rx
  cases y with
  | non=>cases ry;exact PySem.EqNone.eq_bool_none (zM I q (by simp))
  | bl j=>cases ry;exact eq_bool (zM I q zji)
  | str j=>obtain ⟨t',rfl⟩:=ry;exact PySem.EqMixed.eq_bool_str (zM I q (by simp))
  | _=>exact absurd (show false=true from hs) Bool.false_ne_true
 | int i=>
  obtain ⟨t,rfl⟩:=rx
  cases y with
  | non=>cases ry;exact PySem.EqNone.eq_int_none (zM I q (by simp))
  | int j=>obtain ⟨t',rfl⟩:=ry;exact eq_int (zM I q zgJ)
  | str j=>obtain ⟨t',rfl⟩:=ry;exact PySem.EqMixed.eq_int_str (zM I q (by simp))
  | _=>exact absurd (show false=true from hs) Bool.false_ne_true
 | str i=>
  obtain ⟨t,rfl⟩:=rx
  cases y with
  | non=>cases ry;exact PySem.EqNone.eq_str_none (zM I q (by simp))
  | bl j=>cases ry;exact PySem.EqMixed.eq_str_bool (zM I q (by simp))
  | int j=>obtain ⟨t',rfl⟩:=ry;exact PySem.EqMixed.eq_str_int (zM I q (by simp))
  | str j=>obtain ⟨t',rfl⟩:=ry;exact eq_str (zM I q zgO)
  | _=>exact absurd (show false=true from hs) Bool.false_ne_true
 | byt i=>
  obtain ⟨t,rfl⟩:=rx
  cases y with
  | byt j=>obtain ⟨t',rfl⟩:=ry;exact PySem.W.eq_bytes (zM I q zha)
  | _=>exact absurd (show false=true from hs) Bool.false_ne_true
 | _=>cases y <;> exact absurd (show false=true from hs) Bool.false_ne_true
theorem zdA:OpR X (compareOp .NotEq) rNe:=by
 intro pins s σ H x y v u Q I rx ry h
 obtain ⟨hs,q⟩:=h
 cases x with
 | non=>
  cases rx
  cases y with
  | non=>cases ry;exact PySem.EqNone.ne_none_none (zM I q (by simp))
  | bl j=>cases ry;exact PySem.EqNone.ne_none_bool (zM I q (by simp))
  | int j=>obtain ⟨t',rfl⟩:=ry;exact PySem.EqNone.ne_none_int (zM I q (by simp))
  | str j=>obtain ⟨t',rfl⟩:=ry;exact PySem.EqNone.ne_none_str (zM I q (by simp))
  | _=>exact absurd (show false=true from hs) Bool.false_ne_true
 | bl i=>
  cases rx
  cases y with
  | non=>cases ry;exact PySem.EqNone.ne_bool_none (zM I q (by simp))
  | bl j=>cases ry;exact ne_bool (zM I q (congrArg not zji))
  | str j=>obtain ⟨t',rfl⟩:=ry;exact PySem.EqMixed.ne_bool_str (zM I q (by simp))
  | _=>exact absurd (show false=true from hs) Bool.false_ne_true
 | int i=>
  obtain ⟨t,rfl⟩:=rx
  cases y with
  | non=>cases ry;exact PySem.EqNone.ne_int_none (zM I q (by simp))
  | int j=>obtain ⟨t',rfl⟩:=ry;exact ne_int (zM I q (congrArg not zgJ))
  | str j=>obtain ⟨t',rfl⟩:=ry;exact PySem.EqMixed.ne_int_str (zM I q (by simp))
  | _=>exact absurd (show false=true from hs) Bool.false_ne_true
 | str i=>
  obtain ⟨t,rfl⟩:=rx
  cases y with
  | non=>cases ry;exact PySem.EqNone.ne_str_none (zM I q (by simp))
  | bl j=>cases ry;exact PySem.EqMixed.ne_str_bool (zM I q (by simp))
  | int j=>obtain ⟨t',rfl⟩:=ry;exact PySem.EqMixed.ne_str_int (zM I q (by simp))
  | str j=>obtain ⟨t',rfl⟩:=ry;exact ne_str (zM I q (congrArg not zgO))
  | _=>exact absurd (show false=true from hs) Bool.false_ne_true
 | byt i=>
  obtain ⟨t,rfl⟩:=rx
  cases y with
  | byt j=>obtain ⟨t',rfl⟩:=ry;exact PySem.W.ne_bytes (zM I q (congrArg not zha))
  | _=>exact absurd (show false=true from hs) Bool.false_ne_true
 | _=>cases y <;> exact absurd (show false=true from hs) Bool.false_ne_true
theorem zek:OpR X (compareOp .Lt) (rI0 fun i j=>.bl (decide (i < j))):=opB0 fun _ _ _ _ _ _ _ q=>lt_int q
theorem zgQ:OpR X (compareOp .LtE) (rI0 fun i j=>.bl (decide (i≤j))):=opB0 fun _ _ _ _ _ _ _ q=>le_int q
theorem zgE:OpR X (compareOp .Gt) (rI0 fun i j=>.bl (decide (j < i))):=opB0 fun _ _ _ _ _ _ _ q=>gt_int q
theorem zjr:OpR X (compareOp .GtE) (rI0 fun i j=>.bl (decide (j≤i))):=opB0 fun _ _ _ _ _ _ _ q=>ge_int q
theorem zh0:OpR X (compareOp .Lt) (fun x y H Q=>∃i j,x=.str i∧y=.str j∧Q (.bl (decide (i.cps.toList < j.cps.toList))) H):=by
 intro pins s σ H x y v u Q I rx ry h
 obtain ⟨i,j,rfl,rfl,q⟩:=h
 obtain ⟨t,rfl⟩:=rx
 obtain ⟨t',rfl⟩:=ry
 exact lt_str (zM I q rfl)
theorem zbl:OpR X (compareOp .Is) (fun x y H Q=>y=.non∧Q (.bl (decide (x=.non))) H):=by
 intro pins s σ H x y v u Q I rx ry h
 obtain ⟨rfl,q⟩:=h
 cases ry
 refine is_none_gen (zM I q ?_)
 cases x <;> first
  | (cases rx;rfl)
  | (obtain ⟨t,rfl⟩:=rx;rfl)
theorem zdG:OpR X (compareOp .IsNot) (fun x y H Q=>y=.non∧Q (.bl (!decide (x=.non))) H):=by
 intro pins s σ H x y v u Q I rx ry h
 obtain ⟨rfl,q⟩:=h
 cases ry
 refine isnot_none_gen (zM I q ?_)
 cases x <;> first
  | (cases rx;rfl)
  | (obtain ⟨t,rfl⟩:=rx;rfl)
def isObj:HO→Bool
 | .lst _=>true
 | .ins _ _ _=>true
 | _=>false
theorem OpR.or {f:Value→Value→Sem Value}{r r':R2}(h:OpR X f r)(h':OpR X f r'):OpR X f (fun x y H Q=>r x y H Q∨r' x y H Q):=by
 intro pins s σ H x y v u Q I rx ry q
 rcases q with q | q
 ·exact h pins s σ H x y v u Q I rx ry q
 ·exact h' pins s σ H x y v u Q I rx ry q
theorem zt (b:Expr){op:CmpOp}(h:op≠ .In:=by decide)(h2:op≠ .NotIn:=by decide):behindInMarks op b=false:=by
 have e1:(op==CmpOp.In)=false:=by cases op <;> first | rfl | exact absurd rfl h
 have e2:(op==CmpOp.NotIn)=false:=by cases op <;> first | rfl | exact absurd rfl h2
 cases b <;> simp [behindInMarks,e1,e2]
theorem zS {op:CmpOp}{r:R2}(ho:OpR X (compareOp op) r)(ha:PE X a ta)(hb:PE X b tb)(hm:behindInMarks op b=false):PE X (.Compare a [op] [b] pos) (tOp r ta tb):=by
 intro pins s σ H Q I h
 exact wpAny_Compare1 (binT ha hb I h fun v u s2 x y H2 I2 rx ry q=>ho pins s2 σ H2 x y v u Q I2 rx ry q) hm
def zk2 (t:TE):TT:=fun σ H Q=>t σ H fun x H'=>∃k,x=.bl k∧Q k H'
theorem zx {op:CmpOp}{r:R2}(ho:OpR X (compareOp op) r)(ha:PE X a ta)(hb:PE X b tb)(hm:behindInMarks op b=false):PT X (.Compare a [op] [b] pos) (zk2 (tOp r ta tb)):=by
 intro pins s σ H Q I h
 refine wpAny_isTrue_Compare1 (thn (ha pins s σ H _ I h) fun v s1 ⟨x,H1,I1,r1,q1⟩=>thn (hb pins s1 σ H1 _ I1 q1) fun u s2 ⟨y,H2,I2,r2,q2⟩=>
  thn (ho pins s2 σ H2 x y v u _ I2 r1 r2 q2) fun c s3 ⟨z,H3,I3,r3,k,e,q3⟩=>?_) hm
 subst e
 cases r3
 exact wpAny_truthy_bool ⟨H3,I3,q3⟩
def ziq (r r':R2)(ta tb tc:TE):TE:=fun σ H Q=>ta σ H fun x H1=>tb σ H1 fun y H2=>r x y H2 fun z H3=>∃k,z=.bl k∧
 (if k=true then tc σ H3 fun w' H4=>r' y w' H4 Q else Q (.bl false) H3)
theorem ziS {op op':CmpOp}{r r':R2}(ho:OpR X (compareOp op) r)(ho':OpR X (compareOp op') r')(ha:PE X a ta)(hb:PE X b tb)(hc:PE X c tc)
  (hm:lastMarks [op,op'] [b,c]=false:=by with_unfolding_all rfl):PE X (.Compare a [op,op'] [b,c] pos) (ziq r r' ta tb tc):=by
 intro pins s σ H Q I h
 refine Compare_chain (thn (ha pins s σ H _ I h) fun v s1 ⟨x,H1,I1,r1,q1⟩=>chain_link (thn (hb pins s1 σ H1 _ I1 q1) fun u s2 ⟨y,H2,I2,r2,q2⟩=>
  thn (ho pins s2 σ H2 x y v u _ I2 r1 r2 q2) fun d s3 ⟨z,H3,I3,r3,k,e,q3⟩=>?_)) hm
 subst e
 cases r3
 refine wpAny_truthy_bool ?_
 cases k with
 | false=>exact ite_ff ⟨.bl false,H3,I3,rfl,q3⟩
 | true=>exact ite_tt (chain_last (thn (hc pins s3 σ H3 _ I3 q3) fun w' s4 ⟨z',H4,I4,r4,q4⟩=>ho' pins s4 σ H4 y z' u w' Q I4 r2 r4 q4))
theorem zjm {op op':CmpOp}{r r':R2}(ho:OpR X (compareOp op) r)(ho':OpR X (compareOp op') r')(ha:PE X a ta)(hb:PE X b tb)(hc:PE X c tc)
  (hm:lastMarks [op,op'] [b,c]=false:=by with_unfolding_all rfl):PT X (.Compare a [op,op'] [b,c] pos) (zk2 (ziq r r' ta tb tc)):=by
 intro pins s σ H Q I h
 refine isTrue_chain (thn (ha pins s σ H _ I h) fun v s1 ⟨x,H1,I1,r1,q1⟩=>test_link (thn (hb pins s1 σ H1 _ I1 q1) fun u s2 ⟨y,H2,I2,r2,q2⟩=>
  thn (ho pins s2 σ H2 x y v u _ I2 r1 r2 q2) fun d s3 ⟨z,H3,I3,r3,k,e,q3⟩=>?_)) hm
 subst e
 cases r3
 refine wpAny_truthy_bool ?_
 cases k with
 | false=>
  obtain ⟨k',e',q'⟩:=q3
  cases e'
  exact ite_ff ⟨H3,I3,q'⟩
 | true=>
  refine ite_tt (test_last (thn (hc pins s3 σ H3 _ I3 q3) fun w' s4 ⟨z',H4,I4,r4,q4⟩=>thn (ho' pins s4 σ H4 y z' u w' _ I4 r2 r4 q4) fun d' s5 ⟨z2,H5,I5,r5,k2,e2,q5⟩=>?_))
  subst e2
  cases r5
  exact wpAny_truthy_bool ⟨H5,I5,q5⟩
def TruV (K:PySem.W.Frag)(x:V)(H:Hp)(k:Bool):Prop:=
 match x with
 | .non=>k=false
 | .bl b=>k=b
 | .int i=>k=(i !=0)
 | .str y=>y.length≤sizeLine∧k=((y.length:Int) !=0)
 | .byt y=>y.size≤sizeLine∧k=((y.size:Int) !=0)
 | .ref p=>(∃xs,SqL K H p xs∧k= !xs.isEmpty)∨(∃xs,SqT K H p xs∧k= !xs.isEmpty)∨∃kvs,H p=some (.dK kvs)∧k= !kvs.isEmpty
 | _=>False
theorem zee:(sizeLine:Nat) < 2 ^ 63:=by rw [sizeLine_eq];decide
def zmh (b:Expr):Prop:=∀o i,subscripted b false o i=operate [o,i] (getItem o i)
theorem vals1 {x:V}{us:List Value}(r:Vals [x] us):∃u,us=[u]∧RelV x u:=by
 cases r with
 | cons r1 r2=>cases r2;exact ⟨_,rfl,r1⟩
theorem vals2 {x y:V}{us:List Value}(r:Vals [x,y] us):∃u w',us=[u,w']∧RelV x u∧RelV y w':=by
 cases r with
 | cons r1 r2=>
  cases r2 with
  | cons r3 r4=>cases r4;exact ⟨_,_,rfl,r1,r3⟩
theorem zih:zaW X (.builtin "abs") (fun xs H Q=>∃i,xs=[.int i]∧Q (.int (if i < 0 then -i else i)) H):=by
 intro pins s σ H xs us Q I r h
 obtain ⟨i,rfl,q⟩:=h
 obtain ⟨u,rfl,t,rfl⟩:=vals1 r
 exact call_abs_int fun u tk=>⟨.int (if i < 0 then -i else i),H,I.tok _,⟨_,rfl⟩,q⟩
theorem zda:zaW X (.type "int") (fun xs H Q=>(∃i,xs=[.int i]∧Q (.int i) H)∨∃k,xs=[.bl k]∧Q (.int (if k then 1 else 0)) H):=by
 intro pins s σ H xs us Q I r h
 rcases h with ⟨i,rfl,q⟩ | ⟨k,rfl,q⟩
 ·obtain ⟨u,rfl,t,rfl⟩:=vals1 r
  exact call_int_int ⟨.int i,H,I,⟨_,rfl⟩,q⟩
 ·obtain ⟨u,rfl,r1⟩:=vals1 r
  cases r1
  exact call_int_bool ⟨.int (if k then 1 else 0),H,I.tok _,⟨_,rfl⟩,q⟩
theorem zfo:zaW X (.builtin "ord") (fun xs H Q=>∃x,xs=[.str x]∧x.length=1∧Q (.int (x.cps.getD 0 0:Nat)) H):=by
 intro pins s σ H xs us Q I r h
 obtain ⟨x,rfl,hz,q⟩:=h
 obtain ⟨u,rfl,t,rfl⟩:=vals1 r
 exact ord_of_one hz ⟨.int _,H,I.tok _,⟨_,rfl⟩,q⟩
def LenV (K:PySem.W.Frag)(x:V)(H:Hp)(n:Nat):Prop:=
 match x with
 | .str y=>y.length≤sizeLine∧n=y.length
 | .byt y=>y.size≤sizeLine∧n=y.size
 | .ref p=>(∃xs,SqL K H p xs∧n=xs.length)∨∃xs,SqT K H p xs∧n=xs.length
 | _=>False
end
end L2
namespace L2
open PySem PySem.Spec PyProof.Rows
structure ObjM (h:Heap)(x dx C:Addr)(mA:Str→Option Value):Prop where
 obj:h.get? x=some (PySem.W.instObj C dx)
 ns:h.Ns1 dx mA
 ne:dx≠x
theorem zc9 {h:Heap}{dx:Addr}{mA:Str→Option Value}(n:h.Ns1 dx mA):∃od,h.get? dx=some od∧∀name,PySem.W.lookIn name od=some (mA name):=by
 obtain ⟨o,es,ep,ho,hd,hk,_,hm⟩:=n
 refine ⟨o,ho,fun name=>?_⟩
 have e:=hm name
 unfold nsFind findBy at e
 rw [←Array.find?_toList] at e
 unfold PySem.W.lookIn
 rw [hd]
 dsimp only
 split
 ·rename_i y q
  rw [q] at e
  exact congrArg some e
 ·rename_i q
  rw [q] at e
  have a:es.toList.any (·.refKey)=false:=by
   rw [List.any_eq_false]
   intro y hy
   obtain ⟨z,t,hkey⟩:=hk y (Array.mem_toList_iff.mp hy)
   simp [DictEntry.refKey,hkey]
  have a':¬es.toList.any (·.refKey)=true:=by rw [a];exact Bool.false_ne_true
  rw [if_neg a']
  exact congrArg some e
theorem ObjM.look {h:Heap}{x dx C:Addr}{mA:Str→Option Value}(I:ObjM h x dx C mA):∃od,PySem.W.InstAt h x (PySem.W.instObj C dx) C (some od)∧∀name,PySem.W.lookIn name od=some (mA name):=
 let ⟨od,ho,hl⟩:=zc9 I.ns
 ⟨od,⟨I.obj,rfl,rfl,ho⟩,hl⟩
section
variable {prog:Program}{w:World}{A:Around}{E:Value→Shared→Prop}{s:Shared}{K:PySem.W.Frag}{x dx C f:Addr}{mA:Str→Option Value}{name:Str}{v:Value}
theorem get_map {expr:Bool}{Q:Value→Shared→Prop}(X:K.In s.heap)(I:ObjM s.heap x dx C mA)(hg:PySem.W.plainGet K C name=true)(hh:PySem.W.hasDictIn K C=true)
  (ha:PySem.W.findIn K (.ref C) name=some none) (hv:mA name=some v) (hv':PySem.W.handedIn v=true) (h:Q v {s with toks:=s.toks+1}):
  wpAny (model prog w) A (getAttr (.ref x) name expr) Q E s:=by
 obtain ⟨od,J,hl⟩:=I.look
 exact PySem.W.get_value X J (PySem.W.plainGet_of hg).1 (PySem.W.findObj_own hh ha rfl (by rw [hl,hv])) hv' h
theorem zjz {pl:Sem Bool}{Q:Value ×List Value→Shared→Prop}(X:K.In s.heap)(I:ObjM s.heap x dx C mA)(hg:PySem.W.plainGet K C name=true)
  (hf:PySem.W.findIn K (.ref C) name=some (some (.ref f))) (ht:PySem.W.isFn K (.ref f)=true) (hv:mA name=none) (h:Q (.ref f,[.ref x]) s):
  wpAny (model prog w) A (getMethod (.ref x) name pl) Q E s:=by
 obtain ⟨od,J,hl⟩:=I.look
 exact PySem.W.method_fn X J (PySem.W.plainGet_of hg).1 (PySem.W.plainGet_of hg).2 hf (beq_iff_eq.mp ht) (by show (PySem.W.lookIn name od).map (·.isSome)=some false;rw [hl,hv];rfl) h
theorem zkm {ns:List Str}{Q:Unit→Shared→Prop}(X:K.In s.heap)(I:ObjM s.heap x dx C mA)
  (hs:PySem.W.findIn K (.ref C) "__setattr__" =some (some (.builtin "object.__setattr__"))) (hp:PySem.W.plainOver K C=true) (ht:PySem.W.takerIn K C name=some none) (hh:PySem.W.hasDictIn K C=true)
  (hw:PySem.Within mA ns) (hsz:ns.length≤sizeLine)
  (h:∀h',ObjM h' x dx C (fun y=>if y=name then some v else mA y)→Heap.SameBut dx s.heap h'→Q () {s with heap:=h',toks:=s.toks+2}):
  wpAny (model prog w) A (setAttr (.ref x) name v) Q E s:=by
 obtain ⟨od,J,hl⟩:=I.look
 refine PySem.W.set_plain X J hs (PySem.W.osa_open (s:={s with toks:=s.toks+1}) (r:=none) X J hp ht fun b=>?_)
 obtain ⟨cd,hc,hd'⟩:=PySem.W.any_some hh
 have hx:s.heap.get? x=some ⟨.ref C,some dx,.plain, #[]⟩:=I.obj
 refine wpAny_bind (wpAny_pure (wpAny_bind (wpAny_bind (wpAny_loadPart hx (wpAny_bind (PySem.W.Looks.here (s:={s with toks:=s.toks+1}) (PySem.W.looks_clsIn X hc) ?_))))))
 rw [hd']
 refine wpAny_pure (a:=some dx) (wpAny_bind (wpAny_pure (wpAny_bind ?_)))
 refine wpAny_nsSet1 (s:={s with toks:=s.toks+1}) I.ns fun h' hn2 hs2=>?_
 obtain ⟨oD,esD,epD,hoD,hdD,hcD⟩:=hn2.count (PySem.Within.cons name v hw)
 refine wpAny_bind (wpAny_lookBehind hoD (by rw [hdD];exact pastItsLine_dict (Nat.le_trans hcD (by rw [List.length_cons];omega))) ?_)
 exact wpAny_pure (h _ ⟨(hs2.2 _ (Ne.symm I.ne)).trans I.obj,hn2,I.ne⟩ hs2)
theorem ziX {R:Result→Shared→Prop}{vs:List Value}{kw:List (Str ×Value)}(X:K.In s.heap)(hm:PySem.W.makesIn K C=true)
  (hi:PySem.W.findIn K (.ref C) "__init__" =some (some (.ref f))) (hf:PySem.W.typeIn K (.ref f)=some (.type "function"))
  (h:codeAny (model prog w) (A.under (.builtin "type.__call__" ⟨.ref C::vs,kw⟩)) (.call (.ref f) ⟨.ref (s.heap.objs.size+1)::vs,kw⟩) (PySem.W.InitBack (s.heap.objs.size+1) R)
   {s with heap:=(s.heap.push PySem.W.emptyDict).push (PySem.W.instObj C s.heap.objs.size)}):
  codeAny (model prog w) A (.call (.ref C) ⟨vs,kw⟩) R s:=by
 obtain ⟨hh,g,d,t,os⟩:=s
 exact PySem.W.make_core (PySem.W.makes_of X hm) (PySem.W.looks_findIn X hi) (fun self=>PySem.W.bind_fn X self hf) (.inl rfl) h
end
def putF (f:Str)(v:V):List (Str ×V)→List (Str ×V)
 | []=>[(f,v)]
 | (g,x)::r=>if g=f then (g,v)::r else (g,x)::putF f v r
theorem zct (f g:Str)(v:V):∀fs:List (Str ×V),(putF f v fs).lookup g=if g=f then some v else fs.lookup g
 | []=>by
  show List.lookup g [(f,v)]=_
  by_cases h:g=f
  ·have hb:(g==f)=true:=beq_iff_eq.mpr h
   simp only [List.lookup,hb,if_pos h]
  ·have hb:(g==f)=false:=beq_eq_false_iff_ne.mpr h
   simp only [List.lookup,hb,if_neg h]
 | (k,x)::r=>by
  have ih:=zct f g v r
  rw [show putF f v ((k,x)::r)=(if k=f then (k,v)::r else (k,x)::putF f v r) from rfl]
  by_cases hk:k=f
  ·rw [if_pos hk]
   by_cases h:g=k
   ·have hb:(g==k)=true:=beq_iff_eq.mpr h
    simp only [List.lookup,hb,if_pos (h.trans hk)]
   ·have hb:(g==k)=false:=beq_eq_false_iff_ne.mpr h
    simp only [List.lookup,hb,if_neg (fun e:g=f=>h (e.trans hk.symm))]
  ·rw [if_neg hk]
   by_cases h:g=k
   ·have hb:(g==k)=true:=beq_iff_eq.mpr h
    simp only [List.lookup,hb,if_neg (fun e:g=f=>hk (h.symm.trans e))]
   ·have hb:(g==k)=false:=beq_eq_false_iff_ne.mpr h
    simp only [List.lookup,hb]
    exact ih
theorem zbO (f:Str)(v:V):∀fs:List (Str ×V),f∈(putF f v fs).map (·.1)∧∀g,g∈fs.map (·.1)→g∈(putF f v fs).map (·.1)
 | []=>⟨by simp [putF],fun g h=>by simp at h⟩
 | (k,x)::r=>by
  obtain ⟨i1,i2⟩:=zbO f v r
  rw [show putF f v ((k,x)::r)=(if k=f then (k,v)::r else (k,x)::putF f v r) from rfl]
  by_cases hk:k=f
  ·rw [if_pos hk]
   subst hk
   exact ⟨by simp,fun g h=>by simpa using h⟩
  ·rw [if_neg hk]
   refine ⟨?_,fun g h=>?_⟩
   ·rw [List.map_cons]
    exact List.mem_cons_of_mem _ i1
   ·rw [List.map_cons] at h ⊢
    rcases List.mem_cons.mp h with e | e
    ·exact List.mem_cons.mpr (.inl e)
    ·exact List.mem_cons_of_mem _ (i2 g e)
theorem zdB (f:Str)(v:V):∀fs:List (Str ×V),(putF f v fs).length≤fs.length+1
 | []=>by simp [putF]
 | (k,x)::r=>by
  have ih:=zdB f v r
  rw [show putF f v ((k,x)::r)=(if k=f then (k,v)::r else (k,x)::putF f v r) from rfl]
  by_cases hk:k=f
  ·rw [if_pos hk,List.length_cons,List.length_cons];omega
  ·rw [if_neg hk,List.length_cons,List.length_cons];omega
theorem RelO.some_of {v:V}{o:Option Value}(r:RelO (some v) o):∃u,o=some u∧RelV v u:=by
 cases o with
 | none=>exact (show False from r).elim
 | some u=>exact ⟨u,rfl,r⟩
theorem RelO.none_of {o:Option Value}(r:RelO none o):o=none:=by
 cases o with
 | none=>rfl
 | some u=>exact (show False from r).elim
theorem zeC {v:V}{u:Value}(r:RelV v u):PySem.W.handedIn u=true:=by
 cases v with
 | non=>cases (show u=Value.none from r);rfl
 | bl b=>cases (show u=Value.bool b from r);rfl
 | int i=>obtain ⟨t,e⟩:=(show∃t,u=Value.int i t from r);cases e;rfl
 | str x=>obtain ⟨t,e⟩:=(show∃t,u=Value.str x t from r);cases e;rfl
 | byt b=>obtain ⟨t,e⟩:=(show∃t,u=Value.bytes b t from r);cases e;rfl
 | flt b=>obtain ⟨t,e⟩:=(show∃t,u=Value.float b t from r);cases e;rfl
 | ref a=>cases (show u=Value.ref a from r);rfl
 | ty n=>cases (show u=Value.type n from r);rfl
section
variable {P:Program}{w:World}{H H':Hp}{h h':Heap}{a C dx:Addr}{fs fs':List (Str ×V)}
theorem zdJ (hok:HOk P w H h)(e:H a=some (.ins C dx fs)):∃mA,ObjM h a dx C mA∧(∀f,RelO (fs.lookup f) (mA f))∧PySem.Within mA (fs.map (·.1))∧fs.length≤1000∧H dx=some (.own a):=by
 obtain ⟨d,z,ne,ob,mA,n,r,q⟩:=(show zY P w H h a (.ins C dx fs) from hok a _ e)
 exact ⟨mA,⟨ob,n,ne⟩,r,q,z,d⟩
end
structure Cls (K:PySem.W.Frag)(C:Addr):Prop where
 pg:PySem.W.plainGet K C Str.empty=true
 hd:PySem.W.hasDictIn K C=true
 po:PySem.W.plainOver K C=true
 sa:PySem.W.findIn K (.ref C) "__setattr__" =some (some (.builtin "object.__setattr__"))
theorem Cls.get {K:PySem.W.Frag}{C:Addr}(c:Cls K C)(f:Str):PySem.W.plainGet K C f=true:=c.pg
def zy (K:PySem.W.Frag)(C:Addr)(f:Str):Prop:=PySem.W.findIn K (.ref C) f=some none
theorem zy.taker {K:PySem.W.Frag}{C:Addr}{f:Str}(n:zy K C f):PySem.W.takerIn K C f=some none:=by
 unfold PySem.W.takerIn
 rw [show PySem.W.findIn K (.ref C) f=some none from n]
 rfl
structure Con (K:PySem.W.Frag)(C:Addr)(f:Str)(v:V)(u:Value):Prop where
 at_:PySem.W.findIn K (.ref C) f=some (some u)
 rel:RelV v u
 get:PySem.W.specialIn K u "__get__" =some none
 cp:PySem.W.copiedNames.contains f=false
structure Meth (K:PySem.W.Frag)(C:Addr)(m:Str)(f:Addr):Prop where
 at_:PySem.W.findIn K (.ref C) m=some (some (.ref f))
 fn:PySem.W.isFn K (.ref f)=true
 kp:PySem.W.keepIn K (.ref f)=true
section
variable {X:Cx}{pins:List (Addr ×Obj)}{σ:St}{H:Hp}{s:Shared}{a C dx:Addr}{fs:List (Str ×V)}{f:Str}{v:V}{A:Around}{E:Value→Shared→Prop}
theorem zgj {b:Bool}{Q:Value→Shared→Prop}(I:Inv X pins σ H s)(e:H a=some (.ins C dx fs))(c:Cls X.K C)(n:zy X.K C f)(l:fs.lookup f=some v)
  (h:∀u s',Inv X pins σ H s'→RelV v u→Q u s'):wpAny (model X.prog X.w) A (getAttr (.ref a) f b) Q E s:=by
 obtain ⟨mA,O,r,_,_,_⟩:=zdJ I.hok e
 obtain ⟨u,hu,ru⟩:=RelO.some_of (v:=v) (o:=mA f) (by rw [←l];exact r f)
 exact get_map I.kIn O (c.get f) c.hd n hu (zeC ru) (h u _ (I.tok _) ru)
theorem zeo {m:Str}{g:Addr}{pl:Sem Bool}{Q:Value ×List Value→Shared→Prop}(I:Inv X pins σ H s)(e:H a=some (.ins C dx fs))(c:Cls X.K C)(k:Meth X.K C m g)(l:fs.lookup m=none)
  (h:Q (.ref g,[.ref a]) s):wpAny (model X.prog X.w) A (getMethod (.ref a) m pl) Q E s:=by
 obtain ⟨mA,O,r,_,_,_⟩:=zdJ I.hok e
 have hn:mA m=none:=RelO.none_of (by rw [←l];exact r m)
 exact zjz I.kIn O (c.get m) k.at_ k.fn hn h
theorem zgk {y:V}{u:Value}{Q:Unit→Shared→Prop}(I:Inv X pins σ H s)(e:H a=some (.ins C dx fs))(c:Cls X.K C)(n:zy X.K C f)(hl:fs.length < 1000)(ry:RelV y u)
  (h:∀s',Inv X pins σ (upd H a (.ins C dx (putF f y fs))) s'→Q () s'):wpAny (model X.prog X.w) A (setAttr (.ref a) f u) Q E s:=by
 obtain ⟨mA,O,r,wi,_,ho⟩:=zdJ I.hok e
 have hz:(fs.map (·.1)).length≤sizeLine:=by rw [List.length_map,sizeLine_eq];omega
 refine zkm I.kIn O c.sa c.po n.taker c.hd wi hz fun h' O' sb=>h _ ?_
 have hd:∃o,h'.get? dx=some o:=let ⟨o,_,_,e',_⟩:=O'.ns;⟨o,e'⟩
 refine I.write (x:=a) (e:=dx) (by rw [e];exact True.intro) (.inr ho) (fun b q hb z=>(sb.2 b hb).trans z) hd ?_
 refine ⟨by rw [zj O.ne];exact ho,?_,O.ne,O'.obj,_,O'.ns,fun g=>?_,fun g hg=>?_⟩
 ·have:=zdB f y fs;omega
 ·show RelO ((putF f y fs).lookup g) (if g=f then some u else mA g)
  rw [zct]
  by_cases q:g=f
  ·rw [if_pos q,if_pos q];exact ry
  ·rw [if_neg q,if_neg q];exact r g
 ·by_cases q:g=f
  ·rw [q];exact (zbO f y fs).1
  ·refine (zbO f y fs).2 g (wi g fun z=>hg ?_)
   show (if g=f then some u else mA g)=none
   rw [if_neg q];exact z
theorem Inv.made (I:Inv X pins σ H s):Inv X pins σ (upd (upd H s.heap.objs.size (.own (s.heap.objs.size+1))) (s.heap.objs.size+1) (.ins C s.heap.objs.size []))
  {s with heap:=(s.heap.push PySem.W.emptyDict).push (PySem.W.instObj C s.heap.objs.size)}:=by
 have e1:(s.heap.push PySem.W.emptyDict).get? s.heap.objs.size=some PySem.W.emptyDict:=Heap.get?_push_size s.heap rfl
 have e2:((s.heap.push PySem.W.emptyDict).push (PySem.W.instObj C s.heap.objs.size)).get? (s.heap.objs.size+1)=some (PySem.W.instObj C s.heap.objs.size):=by
  have:=Heap.get?_push_size (s.heap.push PySem.W.emptyDict) (o:=PySem.W.instObj C s.heap.objs.size) rfl
  rwa [Heap.size_push] at this
 have e3:(s.heap.push PySem.W.emptyDict).Ns s.heap.objs.size (fun _=>none):=⟨PySem.W.emptyDict, #[],_,e1,rfl,(fun e he=>absurd he (by simp)),fun _=>rfl⟩
 have I1:=I.laid (a:=s.heap.objs.size) (o:=.own (s.heap.objs.size+1)) (h':=s.heap.push PySem.W.emptyDict) (t':=s.toks) (fun b u q=>Heap.get?_push_of_some _ q) (Nat.le_refl _) ⟨_,e1⟩
 refine I1.laid (a:=s.heap.objs.size+1) (o:=.ins C s.heap.objs.size []) (t':=s.toks) (fun b u q=>Heap.get?_push_of_some _ q) (Nat.le_of_eq (Heap.size_push _ _)) ?_
 have ne:s.heap.objs.size≠s.heap.objs.size+1:=Nat.ne_of_lt (Nat.lt_succ_self _)
 refine ⟨by rw [zj ne,ze],Nat.zero_le _,ne,e2,fun _=>none,(Heap.Ns1.of_empty e3).at fun o q=>Heap.get?_push_of_some _ q,fun _=>True.intro,fun y hy=>absurd rfl hy⟩
theorem zhg {prog:Program}{w:World}{env:Env}{e:Expr}{f:Str}{pos:Pos}{s:Shared}{Q:Value→Shared→Prop}(hb:attributeBase e f env (eval e env)=eval e env)
  (h:wpAny (model prog w) A (eval e env) (fun o s₁=>wpAny (model prog w) A (getAttr o f true) Q E s₁) E s):wpAny (model prog w) A (eval (.Attribute e f pos) env) Q E s:=
 Attribute_any_ h (by rw [arm_eval_Attribute,hb])
end
def tFld (K:PySem.W.Frag)(ta:TE)(f:Str):TE:=fun σ H Q=>ta σ H fun x H1=>∃a C dx fs v,x=.ref a∧H1 a=some (.ins C dx fs)∧Cls K C∧zy K C f∧fs.lookup f=some v∧Q v H1
def tCon (K:PySem.W.Frag)(ta:TE)(f:Str):TE:=fun σ H Q=>ta σ H fun x H1=>∃a C dx fs v u,x=.ref a∧H1 a=some (.ins C dx fs)∧Cls K C∧Con K C f v u∧fs.lookup f=none∧Q v H1
def sFld (K:PySem.W.Frag)(ta tv:TE)(f:Str):TS:=fun D σ H=>tv σ H fun y H1=>ta σ H1 fun x H2=>∃a C dx fs,x=.ref a∧H2 a=some (.ins C dx fs)∧Cls K C∧zy K C f∧fs.length < 1000∧
 D.nx σ (upd H2 a (.ins C dx (putF f y fs)))
def InOp (X:Cx)(op:Operator)(rd:V→V→Hp→VK→Prop):Prop:=
 ∀(pins:List (Addr ×Obj)) (s:Shared) (σ:St) (H:Hp) (x y:V) (u v:Value) (Q:VK),Inv X pins σ H s→RelV x u→RelV y v→rd x y H Q→wpAny (model X.prog X.w) X.A (inplaceOp op u v) (EP X pins σ Q) X.xe s
def zmH (K:PySem.W.Frag)(ta tv:TE)(rd:V→V→Hp→VK→Prop)(f:Str):TS:=fun D σ H=>ta σ H fun x H1=>∃a C dx fs v,x=.ref a∧H1 a=some (.ins C dx fs)∧Cls K C∧zy K C f∧fs.lookup f=some v∧
 tv σ H1 fun y H2=>rd v y H2 fun z H3=>∃dx' fs',H3 a=some (.ins C dx' fs')∧fs'.length < 1000∧D.nx σ (upd H3 a (.ins C dx' (putF f z fs')))
section
variable {X:Cx}{o e value:Expr}{f:Str}{pos pos' tpos:Pos}{ta tv:TE}
theorem zaN (he:PE X e ta)(hb:attributeBase e f X.env (eval e X.env)=eval e X.env):PE X (.Attribute e f pos) (tFld X.K ta f):=by
 intro pins s σ H Q I h
 refine zhg hb (thn (he pins s σ H _ I h) fun u s1 ⟨x,H1,I1,rx,a,C,dx,fs,v,ex,ea,c,n,l,q⟩=>?_)
 subst ex
 obtain rfl:u=Value.ref a:=rx
 exact zgj I1 ea c n l fun u' s2 I2 ru=>⟨v,H1,I2,ru,q⟩
theorem zbB (ha:PE X o ta)(hv:PE X value tv)(hs:swapsWith value (some (.Attribute o f pos')) pos.line X.env=pure false):PS X (.Assign [.Attribute o f pos'] value pos) (sFld X.K ta tv f):=by
 intro pins s σ H D I h
 refine plainObj_wpAny_Assign_Attribute (thn (hv pins s σ H _ I h) fun u s1 ⟨y,H1,I1,ry,q⟩=>thn (ha pins s1 σ H1 _ I1 q) fun ov s2 ⟨x,H2,I2,rx,a,C,dx,fs,ex,ea,c,n,l,q2⟩=>?_) hs
 subst ex
 obtain rfl:ov=Value.ref a:=rx
 exact zgk I2 ea c n l ry fun s3 I3=>⟨σ,_,I3,q2⟩
def rAdd:V→V→Hp→VK→Prop:=fun x y H Q=>∃i j,x=.int i∧y=.int j∧Q (.int (i+j)) H
def rSub:V→V→Hp→VK→Prop:=fun x y H Q=>∃i j,x=.int i∧y=.int j∧Q (.int (i - j)) H
theorem zkH {pl:Sem Bool}{m:Str}{apos:Pos}{args:List Expr}{pins:List (Addr ×Obj)}{s:Shared}{σ:St}{H:Hp}{Q:Value→Shared→Prop}{te:TE}(he:PE X e te)(I:Inv X pins σ H s)
  (h:te σ H fun x H1=>∃a C dx fs g,x=.ref a∧H1 a=some (.ins C dx fs)∧Cls X.K C∧Meth X.K C m g∧fs.lookup m=none∧
   ∀s1,Inv X pins σ H1 s1→wpAny (model X.prog X.w) X.A (callWith pos (.ref g) [.ref a] (backTo pos (starEach args X.env)) (backToKw pos (keywordEach [] X.env))) Q X.xe s1)
  (ht:eval (.Call (.Attribute e m apos) args [] pos) X.env=(do
   let ov←eval e X.env
   standAt apos.atName
   let (f,first) ←holding [ov] (getMethod ov m pl)
   callWith pos f first (backTo pos (starEach args X.env)) (backToKw pos (keywordEach [] X.env)))):
  wpAny (model X.prog X.w) X.A (eval (.Call (.Attribute e m apos) args [] pos) X.env) Q X.xe s:=by
 refine PySem.W.methodCall_KW (pl:=pl) (thn (he pins s σ H _ I h) fun u s1 ⟨x,H1,I1,rx,a,C,dx,fs,g,ex,ea,c,k,l,q⟩=>?_) ht
 subst ex
 obtain rfl:u=Value.ref a:=rx
 exact zeo I1 ea c k l (q s1 I1)
end
section
variable {X:Cx}{pins:List (Addr ×Obj)}{σ:St}{H:Hp}{s:Shared}{A:Around}{E:Value→Shared→Prop}{Q:Value→Shared→Prop}{c:Value}{b:Bool}
inductive TyOf (K:PySem.W.Frag) (H:Hp):V→Value→Prop where
 | non:TyOf K H .non (.type "NoneType")
 | bl (x:Bool):TyOf K H (.bl x) (.type "bool")
 | int (i:Int):TyOf K H (.int i) (.type "int")
 | str (x:Str):TyOf K H (.str x) (.type "str")
 | flt (x:UInt64):TyOf K H (.flt x) (.type "float")
 | lst {a:Addr} {xs:List V} (e:H a=some (.lst xs)):TyOf K H (.ref a) (.type "list")
 | frz {a:Addr} {o:Obj} {xs:List V} (e:H a=some (.frz o (.lst xs))):TyOf K H (.ref a) (.type "list")
 | tup {a:Addr} {xs:List V} (e:H a=some (.tup xs)):TyOf K H (.ref a) (.type "tuple")
 | dK {a:Addr} {kvs:List (Key ×V)} (e:H a=some (.dK kvs)):TyOf K H (.ref a) (.type "dict")
 | dT {a:Addr} {kvs:List (List Key ×V)} (e:H a=some (.dT kvs)):TyOf K H (.ref a) (.type "dict")
 | ins {a C dx:Addr} {fs:List (Str ×V)} (e:H a=some (.ins C dx fs)) (cl:Cls K C) (ha:PySem.W.findIn K (.ref C) "__class__" =some (some (.builtin "object.__class__")))
   (hn:PySem.W.specialIn K (.builtin "object.__class__") "__get__" =some (some (.builtin "getset_descriptor.__get__"))) (htk:PySem.W.takesIn K (.builtin "object.__class__")=some true)
   (hm:PySem.W.mroIn K C (.type "object")=some true):TyOf K H (.ref a) (.ref C)
theorem zhX {x:V}{u t:Value}(I:Inv X pins σ H s)(rx:RelV x u)(ty:TyOf X.K H x t)(e:PySem.W.kitOne X.K t c=some b)(h:∀tk,Q (.bool b) {s with toks:=tk}):
  wpAny (model X.prog X.w) A (call (.builtin "isinstance") [u,c]) Q E s:=by
 cases ty with
 | non=>cases (show u=Value.none from rx);exact PySem.W.kia_one PySem.W.kitx_none I.kIn True.intro e (fun z=>nomatch z) h
 | bl y=>cases (show u=Value.bool y from rx);exact PySem.W.kia_one PySem.W.kitx_bool I.kIn True.intro e (fun z=>nomatch z) h
 | int i=>obtain ⟨t,q⟩:=(show∃t,u=Value.int i t from rx);cases q;exact PySem.W.kia_one PySem.W.kitx_int I.kIn True.intro e (fun z=>nomatch z) h
 | str y=>obtain ⟨t,q⟩:=(show∃t,u=Value.str y t from rx);cases q;exact PySem.W.kia_one PySem.W.kitx_str I.kIn True.intro e (fun z=>nomatch z) h
 | flt y=>obtain ⟨t,q⟩:=(show∃t,u=Value.float y t from rx);cases q;exact PySem.W.kia_one PySem.W.kitx_float I.kIn True.intro e (fun z=>nomatch z) h
 | @lst a xs ea=>
  cases (show u=Value.ref a from rx)
  obtain ⟨_,_,n,_,h1⟩:=(show zY X.prog X.w H s.heap a (.lst xs) from I.hok a _ ea)
  exact PySem.W.kia_one PySem.W.kitx_list I.kIn ⟨_,h1,rfl⟩ e (fun z=>nomatch z) h
 | @frz a ob xs ea=>
  cases (show u=Value.ref a from rx)
  obtain ⟨_,_,_,n,_,h1⟩:=(show zY X.prog X.w H s.heap a (.frz ob (.lst xs)) from I.hok a _ ea)
  exact PySem.W.kia_one PySem.W.kitx_list I.kIn ⟨_,h1,rfl⟩ e (fun z=>nomatch z) h
 | @tup a xs ea=>
  cases (show u=Value.ref a from rx)
  obtain ⟨_,_,_,p⟩:=(show zY X.prog X.w H s.heap a (.tup xs) from I.hok a _ ea)
  obtain ⟨o,h1,h2,_⟩:=p
  exact PySem.W.kia_one PySem.W.kitx_tuple I.kIn ⟨o,h1,h2⟩ e (fun z=>nomatch z) h
 | @dK a kvs ea=>
  cases (show u=Value.ref a from rx)
  obtain ⟨_,_,vs,_,p⟩:=(show zY X.prog X.w H s.heap a (.dK kvs) from I.hok a _ ea)
  obtain ⟨o,es,ep,h1,h2,_⟩:=p
  exact PySem.W.kia_one PySem.W.kitx_dict I.kIn ⟨o,h1,h2.1⟩ e (fun z=>nomatch z) h
 | @dT a kvs ea=>
  cases (show u=Value.ref a from rx)
  obtain ⟨_,_,xs,_,o,es,ep,h1,h2,_⟩:=(show zY X.prog X.w H s.heap a (.dT kvs) from I.hok a _ ea)
  exact PySem.W.kia_one PySem.W.kitx_dict I.kIn ⟨o,h1,h2.1⟩ e (fun z=>nomatch z) h
 | @ins a C dx fs ea cl ha hn htk hm=>
  cases (show u=Value.ref a from rx)
  obtain ⟨mA,O,_⟩:=zdJ I.hok ea
  obtain ⟨od,J,_⟩:=O.look
  exact PySem.W.kia_one (PySem.W.kitx_own (cl.get _) cl.hd ha hn htk hm) I.kIn J e (fun z=>nomatch z) h
end
end L2
namespace L2
open PySem PySem.Spec PyProof.Rows
structure Room (k:Nat)(A:Around):Prop where
 hd:A.handled=none
 dp:A.depth+3 * k+5 < recursionLimit
 un:A.units+16 * k+200 < cLine
theorem Room.mono {j k:Nat}{A:Around}(r:Room k A)(h:j≤k):Room j A:=⟨r.hd,by have:=r.dp;omega,by have:=r.un;omega⟩
theorem Room.deeper {k:Nat}{A:Around}(r:Room (k+1) A)(env:Env):Room k (A.deeper env):=
 ⟨r.hd,by have:=r.dp;show A.depth+1+3 * k+5 < _;omega,by have:=r.un;show A.units+3+16 * k+200 < _;omega⟩
theorem Room.in1 {k:Nat}{A:Around}(r:Room (k+1) A):Room k A.in1:=
 ⟨r.hd,by have:=r.dp;show A.depth+3 * k+5 < _;omega,by have:=r.un;show A.units+1+16 * k+200 < _;omega⟩
theorem zga {A:Around}{C:Addr}{us:List Value}{kw:List (Str ×Value)}:(A.under (.builtin "type.__call__" ⟨.ref C::us,kw⟩)).depth=A.depth+1:=by
 first | rfl | simp [Around.under,Code.weight,Code.isCreation,Code.isGuard,Code.isCaller,Code.frames,Code.isFrame,guardIds]
theorem zgv {A:Around}{C:Addr}{us:List Value}{kw:List (Str ×Value)}:(A.under (.builtin "type.__call__" ⟨.ref C::us,kw⟩)).units=A.units+1:=by
 first | rfl | simp [Around.under,Code.cUnits,Code.frames,Code.isFrame]
theorem Room.make {k:Nat}{A:Around}(r:Room (k+1) A)(C:Addr)(us:List Value)(kw:List (Str ×Value)):Room k (A.under (.builtin "type.__call__" ⟨.ref C::us,kw⟩)):=
 ⟨r.hd,by have:=r.dp;rw [zga];omega,by have:=r.un;rw [zgv];omega⟩
theorem Room.depth {k:Nat}{A:Around}(r:Room k A):A.depth < recursionLimit:=by have:=r.dp;omega
theorem Room.units {k:Nat}{A:Around}(r:Room k A):A.units+64 < cLine:=by have:=r.un;omega
def tNil:TA:=fun _ H Q=>Q [] H
def zmb (ta:TE)(tr:TA):TA:=fun σ H Q=>ta σ H fun x H1=>tr σ H1 fun xs H2=>Q (x::xs) H2
section
variable {X:Cx}{e:Expr}{es:List Expr}{te:TE}{t:TA}{pos:Pos}
theorem zb:PA X [] tNil:=fun _ _ _ _ H Q I h=>Calls.spliced_nil ⟨[],H,I,.nil,h⟩
theorem za (ha:PE X e te)(hr:PA X es t)(hs:starEach (e::es) X.env=(false,eval e X.env)::starEach es X.env:=by rfl):PA X (e::es) (zmb te t):=by
 intro pos pins s σ H Q I h
 rw [hs]
 show wpAny _ _ (spliced ((false,eval e X.env)::backTo pos (starEach es X.env))) _ _ s
 refine Calls.spliced_cons (thn (ha pins s σ H _ I h) fun u s1 ⟨x,H1,I1,r1,q1⟩=>?_)
 exact thn (hr pos pins s1 σ H1 _ I1 q1) fun us s2 ⟨xs,H2,I2,r2,q2⟩=>⟨x::xs,H2,I2,.cons r1 r2,q2⟩
def tTup (t:TA):TE:=fun σ H Q=>t σ H fun xs H1=>xs.length≤sizeLine∧∀p,H1 p=none→Q (.ref p) (upd H1 p (.tup xs))
def tLst (t:TA):TE:=fun σ H Q=>t σ H fun xs H1=>xs.length≤sizeLine∧∀p,H1 p=none→Q (.ref p) (upd H1 p (.lst xs))
theorem zP {x1}(h:PA X es t):PE X (.Tuple es x1 pos) (tTup t):=by
 intro pins s σ H Q I hq
 refine wpAny_Tuple_spliced (thn (h pos pins s σ H _ I hq) fun us s1 ⟨xs,H1,I1,r,z,q⟩=>⟨by rw [←r.length];exact z,?_⟩)
 have hf:H1 s1.heap.objs.size=none:=I1.hok.fresh (Nat.le_refl _)
 refine ⟨.ref s1.heap.objs.size,upd H1 s1.heap.objs.size (.tup xs),I1.laid (t':=s1.toks) (fun b u e=>Heap.get?_push_of_some _ e) (Nat.le_refl _) ?_,rfl,q _ hf⟩
 exact ⟨z,us,r,⟨_,Heap.get?_push_size _ rfl,rfl,_,rfl⟩⟩
theorem zL (h:PA X es t):PE X (.List es pos) (tLst t):=by
 intro pins s σ H Q I hq
 refine wpAny_List_spliced (thn (h pos pins s σ H _ I hq) fun us s1 ⟨xs,H1,I1,r,z,q⟩=>⟨by rw [←r.length];exact z,?_⟩)
 have hf:H1 s1.heap.objs.size=none:=I1.hok.fresh (Nat.le_refl _)
 refine ⟨.ref s1.heap.objs.size,upd H1 s1.heap.objs.size (.lst xs),I1.laid (t':=s1.toks) (fun b u e=>Heap.get?_push_of_some _ e) (Nat.le_refl _) ?_,rfl,q _ hf⟩
 exact ⟨z,us,0,r,Heap.get?_push_size _ rfl⟩
end
abbrev Sp:=List V→Hp→VK→XK→Prop
abbrev CXT:=List Env→Hp→Shared→XK→Value→Shared→Prop
structure Env0 (P:Program)(w:World)(K:PySem.W.Frag)(mg:Str→Option Value)(base:Heap)(A:Around)(outer:List Env)(s:Shared)(H:Hp):Prop where
 frames:A.frames=some outer
 mod:Mod K mg base
 bs:∀b o,base.get? b=some o→s.heap.get? b=some o∧H b=none
 bsz:base.objs.size≤s.heap.objs.size
 funs:s.heap.FunFrames base outer
 frf:∀b∈frs outer,H b=none
 hok:HOk P w H s.heap
 bare:AllBare s.gens
def CE (outer:List Env)(P:Program)(w:World)(H:Hp)(s:Shared)(Q:VK)(u:Value)(s':Shared):Prop:=
 ∃v H',s'.os=s.os∧AllBare s'.gens∧Un (frs outer) [] H H' s.heap s'.heap∧HOk P w H' s'.heap∧RelV v u∧Q v H'
def CR (CX:CXT)(outer:List Env)(P:Program)(w:World)(H:Hp)(s:Shared)(Q:VK)(E:XK)(r:Result)(s':Shared):Prop:=
 match r with
 | .ok (.ret u)=>CE outer P w H s Q u s'
 | .ok _=>False
 | .error e=>CX outer H s E e s'
structure FnOk (P:Program)(w:World)(K:PySem.W.Frag)(mg:Str→Option Value)(base:Heap)(CX:CXT)(k:Nat)(f:Addr)(fd:FuncData)(ps:List Str)(sp:Sp):Prop where
 len:∀vs H Q E,sp vs H Q E→vs.length=ps.length
 run:∀(A:Around) (outer:List Env) (s:Shared) (H:Hp) (args:Args) (us:List Value) (vs:List V) (Q:VK) (E:XK),Room k A→Env0 P w K mg base A outer s H→BindsTo s fd args (ps.zip us)→Vals vs us→sp vs H Q E→
  codeAny (model P w) A (.call (.ref f) args) (CR CX outer P w H s Q E) s
theorem FnOk.mono {P:Program}{w:World}{K:PySem.W.Frag}{mg:Str→Option Value}{base:Heap}{CX:CXT}{j k:Nat}{f:Addr}{fd:FuncData}{ps:List Str}{sp:Sp}(F:FnOk P w K mg base CX j f fd ps sp)(h:j≤k):
  FnOk P w K mg base CX k f fd ps sp:=⟨F.len,fun A outer s H args us vs Q E hr=>F.run A outer s H args us vs Q E (hr.mono h)⟩
theorem FnOk.imp {P:Program}{w:World}{K:PySem.W.Frag}{mg:Str→Option Value}{base:Heap}{CX:CXT}{k:Nat}{f:Addr}{fd:FuncData}{ps:List Str}{sp sp':Sp}(F:FnOk P w K mg base CX k f fd ps sp)
  (h:∀vs H Q E,sp' vs H Q E→sp vs H Q E):FnOk P w K mg base CX k f fd ps sp':=
 ⟨fun vs H Q E q=>F.len vs H Q E (h _ _ _ _ q),fun A outer s H args us vs Q E hr he hb hv hs=>F.run A outer s H args us vs Q E hr he hb hv (h _ _ _ _ hs)⟩
theorem Env0.make {P:Program}{w:World}{K:PySem.W.Frag}{mg:Str→Option Value}{base:Heap}{A:Around}{outer:List Env}{s:Shared}{H:Hp}(e:Env0 P w K mg base A outer s H)(C:Addr)(us:List Value)(kw:List (Str ×Value)):
  Env0 P w K mg base (A.under (.builtin "type.__call__" ⟨.ref C::us,kw⟩)) outer s H:=⟨by first | exact e.frames | (simpa [Around.under,Code.envs,Code.isFrame,pushEnvs] using e.frames),e.mod,e.bs,e.bsz,e.funs,e.frf,e.hok,e.bare⟩
theorem Env0.in1 {P:Program}{w:World}{K:PySem.W.Frag}{mg:Str→Option Value}{base:Heap}{A:Around}{outer:List Env}{s:Shared}{H:Hp}(e:Env0 P w K mg base A outer s H):
  Env0 P w K mg base A.in1 outer s H:=⟨e.frames,e.mod,e.bs,e.bsz,e.funs,e.frf,e.hok,e.bare⟩
section
variable {X:Cx}{pins:List (Addr ×Obj)}{σ:St}{H:Hp}{s s':Shared}
theorem Inv.env0 (I:Inv X pins σ H s):Env0 X.prog X.w X.K X.mg X.base X.A X.stack s H:=
 ⟨I.ok.frames,I.ok.mod,I.bs,Nat.le_trans I.ok.bsz I.sz,I.stack,I.stkFree,I.hok,I.bare⟩
theorem Inv.after {Q:VK}{u:Value}(I:Inv X pins σ H s)(h:CE X.stack X.prog X.w H s Q u s'):EP X pins σ Q u s':=by
 obtain ⟨v,H',os,bare,un,hok,r,q⟩:=h
 obtain ⟨hh,g,d,t,os'⟩:=s'
 obtain rfl:os'=s.os:=os
 exact ⟨v,H',I.call (h':=hh) (g':=g) (d':=d) (t':=t) (ch:=[]) un hok bare (fun b z=>absurd z (by simp)),r,q⟩
end
def zg6 (sp:Sp)(dvs:List V)(E:XK)(t:TA):TE:=fun σ H Q=>t σ H fun vs H1=>sp (vs++dvs) H1 Q E
def zk6 (C:Addr)(m:Str)(sp:Sp)(dvs:List V)(E:XK)(ta:TE)(t:TA):TE:=fun σ H Q=>ta σ H fun x H1=>∃a dx fs,x=.ref a∧H1 a=some (.ins C dx fs)∧fs.lookup m=none∧
 t σ H1 fun vs H2=>sp (x::(vs++dvs)) H2 Q E
def ziO (C:Addr)(sp:Sp)(dvs:List V)(E:XK)(t:TA):TE:=fun σ H Q=>t σ H fun vs H1=>∀x dx,H1 x=none→H1 dx=none→dx≠x→
 sp (.ref x::(vs++dvs)) (upd (upd H1 dx (.own x)) x (.ins C dx [])) (fun v H2=>v=.non∧Q (.ref x) H2) E
def Binds (K:PySem.W.Frag)(fd:FuncData)(ps:List Str)(ds:List Value):Prop:=
 ∀(s:Shared) (us:List Value),K.In s.heap→(us++ds).length=ps.length→BindsTo s fd ⟨us,[]⟩ (ps.zip (us++ds))
theorem Binds.all {K:PySem.W.Frag}{fd:FuncData}{ps:List Str}(h:∀us:List Value,us.length=ps.length→bindArgs fd ⟨us,[]⟩=pure (ps.zip us)):Binds K fd ps []:=fun s us _ hl=>by
 rw [List.append_nil] at hl ⊢
 exact .of_eq (h us hl)
def zby (CX:CXT)(X:Cx)(E:XK):Prop:=∀(pins:List (Addr ×Obj)) (σ:St) (H:Hp) (s:Shared) (e:Value) (s':Shared),Inv X pins σ H s→CX X.stack H s E e s'→X.xe e s'
section
variable {X:Cx}{CX:CXT}{k:Nat}{f C:Addr}{fd:FuncData}{ps:List Str}{sp:Sp}{dvs:List V}{ds:List Value}{E:XK}{x m:Str}{p pos apos:Pos}{e o:Expr}{es:List Expr}{ta:TE}{t:TA}
theorem zgx {pins:List (Addr ×Obj)}{σ:St}{H:Hp}{s:Shared}{Q:VK}{us:List Value}{vs:List V}(F:FnOk X.prog X.w X.K X.mg X.base CX k f fd ps sp)(hr:Room k X.A)(hb:Binds X.K fd ps ds)(hd:Vals dvs ds)(hx:zby CX X E)
  (I:Inv X pins σ H s) (r:Vals vs us) (h:sp (vs++dvs) H Q E):wpAny (model X.prog X.w) X.A (call (.ref f) us) (EP X pins σ Q) X.xe s:=by
 have r2:Vals (vs++dvs) (us++ds):=r.append hd
 have hl:(us++ds).length=ps.length:=by rw [←r2.length];exact F.len _ _ _ _ h
 refine wpAny_call (codeAny_mono (F.run X.A X.stack s H ⟨us,[]⟩ (us++ds) (vs++dvs) Q E hr I.env0 (hb s us I.kIn hl) r2 h) fun r s' hq=>?_)
 cases r with
 | error e=>exact hx pins σ H s e s' I hq
 | ok fl=>
  cases fl with
  | ret u=>exact I.after hq
  | next=>exact False.elim hq
  | brk=>exact False.elim hq
  | cont=>exact False.elim hq
theorem zhb (F:FnOk X.prog X.w X.K X.mg X.base CX k f fd ps sp)(hr:Room k X.A)(hg:Gl X x)(hm:X.mg x=some (.ref f))(hk:PySem.W.keepIn X.K (.ref f)=true)(hb:Binds X.K fd ps ds)(hd:Vals dvs ds)(hx:zby CX X E)
  (ha:PA X (e::es) t) (hdb:(x==("__debug__" :Str))=false:=by decide) (he:starEach (e::es) X.env=(false,eval e X.env)::starEach es X.env:=by rfl) (hpl:(backTo pos (starEach es X.env)).any (·.1)=false:=by rfl):
  PE X (.Call (.Name x p) (e::es) [] pos) (zg6 sp dvs E t):=by
 intro pins s σ H Q I h
 refine wpAny_Call_Name_kw (za8 I hg hm ?_ hdb)
 refine PySem.W.callWith_K (h₀:=X.base) I.ok.mod.kin hk (thn (ha pos pins s σ H _ I h) fun us s1 ⟨vs,H1,I1,r,q⟩=>⟨I1.kIn,?_⟩) he hpl
 exact zgx F hr hb hd hx I1 r q
theorem zkj {pl:Sem Bool}(he:PE X o ta)(c:Cls X.K C)(hm:Meth X.K C m f)(F:FnOk X.prog X.w X.K X.mg X.base CX k f fd ps sp)(hr:Room k X.A)(hb:Binds X.K fd ps ds)(hd:Vals dvs ds)(hx:zby CX X E)(ha:PA X (e::es) t)
  (hst:starEach (e::es) X.env=(false,eval e X.env)::starEach es X.env:=by rfl) (hpl:(backTo pos (starEach es X.env)).any (·.1)=false:=by rfl)
  (ht:eval (.Call (.Attribute o m apos) (e::es) [] pos) X.env=(do
   let ov←eval o X.env
   standAt apos.atName
   let (f,first) ←holding [ov] (getMethod ov m pl)
   callWith pos f first (backTo pos (starEach (e::es) X.env)) (backToKw pos (keywordEach [] X.env))):=by rfl):
  PE X (.Call (.Attribute o m apos) (e::es) [] pos) (zk6 C m sp dvs E ta t):=by
 intro pins s σ H Q I h
 refine PySem.W.methodCall_KW (pl:=pl) (thn (he pins s σ H _ I h) fun u s1 ⟨x,H1,I1,rx,a,dx,fs,ex,ea,l,q⟩=>?_) ht
 subst ex
 obtain rfl:u=Value.ref a:=rx
 refine zeo I1 ea c hm l ?_
 refine PySem.W.callWith_K (first:=[.ref a]) (h₀:=X.base) I.ok.mod.kin hm.kp (thn (ha pos pins s1 σ H1 _ I1 q) fun us s2 ⟨vs,H2,I2,r,q2⟩=>⟨I2.kIn,?_⟩) hst hpl
 exact zgx (us:=.ref a::us) (vs:=.ref a::vs) F hr hb hd hx I2 (.cons rfl r) q2
structure Mk (K:PySem.W.Frag)(C f:Addr):Prop where
 makes:PySem.W.makesIn K C=true
 init:PySem.W.findIn K (.ref C) "__init__" =some (some (.ref f))
 fn:PySem.W.isFn K (.ref f)=true
 kp:PySem.W.keepIn K (.ref C)=true
theorem zjd {pins:List (Addr ×Obj)}{σ:St}{H:Hp}{s:Shared}{Q:VK}{us:List Value}{vs:List V}(M:Mk X.K C f)(F:FnOk X.prog X.w X.K X.mg X.base CX k f fd ps sp)(hr:Room (k+1) X.A)(hb:Binds X.K fd ps ds)(hd:Vals dvs ds)
  (hx:zby CX X E) (I:Inv X pins σ H s) (r:Vals vs us)
  (h:∀x dx,H x=none→H dx=none→dx≠x→sp (.ref x::(vs++dvs)) (upd (upd H dx (.own x)) x (.ins C dx [])) (fun v H2=>v=.non∧Q (.ref x) H2) E):
  wpAny (model X.prog X.w) X.A (call (.ref C) us) (EP X pins σ Q) X.xe s:=by
 have hq:=h (s.heap.objs.size+1) s.heap.objs.size (I.hok.fresh (Nat.le_succ _)) (I.hok.fresh (Nat.le_refl _)) (Nat.ne_of_lt (Nat.lt_succ_self _))
 have I2:=Inv.made (C:=C) I
 have r2:Vals (V.ref (s.heap.objs.size+1)::(vs++dvs)) (Value.ref (s.heap.objs.size+1)::(us++ds)):=.cons rfl (r.append hd)
 have hl:(Value.ref (s.heap.objs.size+1)::us++ds).length=ps.length:=by
  have e:=r2.length
  rw [F.len _ _ _ _ hq] at e
  exact e.symm
 refine wpAny_call (ziX (f:=f) I.kIn M.makes M.init (beq_iff_eq.mp M.fn) (codeAny_mono (F.run _ X.stack _ _ ⟨Value.ref (s.heap.objs.size+1)::us,[]⟩ (Value.ref (s.heap.objs.size+1)::(us++ds)) _ _ E (hr.make C us [])
  (I2.env0.make C us []) (hb _ (Value.ref (s.heap.objs.size+1)::us) I2.kIn hl) r2 hq) fun r s' hq'=>?_))
 cases r with
 | error e=>exact hx pins σ _ _ e s' I2 hq'
 | ok fl=>
  cases fl with
  | ret u=>
   obtain ⟨v,H',I3,rv,ev,q3⟩:=I2.after hq'
   subst ev
   exact ⟨rv,⟨V.ref (s.heap.objs.size+1),H',I3,rfl,q3⟩⟩
  | next=>exact False.elim hq'
  | brk=>exact False.elim hq'
  | cont=>exact False.elim hq'
theorem zgD (M:Mk X.K C f)(F:FnOk X.prog X.w X.K X.mg X.base CX k f fd ps sp)(hr:Room (k+1) X.A)(hg:Gl X x)(hm:X.mg x=some (.ref C))(hb:Binds X.K fd ps ds)(hd:Vals dvs ds)(hx:zby CX X E)
  (ha:PA X (e::es) t) (hdb:(x==("__debug__" :Str))=false:=by decide) (he:starEach (e::es) X.env=(false,eval e X.env)::starEach es X.env:=by rfl) (hpl:(backTo pos (starEach es X.env)).any (·.1)=false:=by rfl):
  PE X (.Call (.Name x p) (e::es) [] pos) (ziO C sp dvs E t):=by
 intro pins s σ H Q I h
 refine wpAny_Call_Name_kw (za8 I hg hm ?_ hdb)
 refine PySem.W.callWith_K (h₀:=X.base) I.ok.mod.kin M.kp (thn (ha pos pins s σ H _ I h) fun us s1 ⟨vs,H1,I1,r,q⟩=>⟨I1.kIn,?_⟩) he hpl
 exact zjd M F hr hb hd hx I1 r q
end
def PK (X:Cx)(kws:List Keyword)(t:TA):Prop:=
 ∀(pos:Pos) (pins:List (Addr ×Obj)) (s:Shared) (σ:St) (H:Hp) (Q:List V→Hp→Prop),Inv X pins σ H s→t σ H Q→wpAny (model X.prog X.w) X.A (evalAll ((backToKw pos (keywordEach kws X.env)).map (·.2))) (AP X pins σ Q) X.xe s
section
variable {X:Cx}{CX:CXT}{k:Nat}{f C:Addr}{fd:FuncData}{ps ks:List Str}{sp:Sp}{E:XK}{x m:Str}{p pos apos kpos:Pos}{e o:Expr}{es:List Expr}{kws:List Keyword}{te ta:TE}{t tk:TA}{nm:Option Str}
structure znh (K:PySem.W.Frag)(fd:FuncData)(ps ks:List Str)(g:List Value→List Value→List Value)(gV:List V→List V→List V):Prop where
 to:∀(s:Shared) (us ws:List Value),K.In s.heap→(g us ws).length=ps.length→BindsTo s fd ⟨us,ks.zip ws⟩ (ps.zip (g us ws))
 rel:∀{vs:List V} {us:List Value} {zs:List V} {ws:List Value},Vals vs us→Vals zs ws→Vals (gV vs zs) (g us ws)
def zmY (sp:Sp)(gV:List V→List V→List V)(E:XK)(t tk:TA):TE:=fun σ H Q=>t σ H fun vs H1=>tk σ H1 fun zs H2=>sp (gV vs zs) H2 Q E
variable {g:List Value→List Value→List Value}{gV:List V→List V→List V}
end
structure zm (N P:List Str)(sc:Scope):Prop where
 kind:sc.kind=.function
 co:sc.isCoroutine=false
 gen:sc.isGenerator=false
 nd:N.Nodup
 pre:N.take P.length=P
 par:∀x∈P,sc.names.lookup x=some .local∨sc.names.lookup x=some .cell
 nofree:∀y∈sc.names,y.2≠ .free
theorem zeJ {kindOf:Str→Option NameKind}{x:Str}:∀{binds:List (Str ×Value)} {m:Str→Option Value},(∀v,(x,v)∉binds)→bindL kindOf binds m x=m x
 | [],_,_=>rfl
 | (n,v)::r,m,h=>by
  unfold bindL
  rw [zeJ fun w hw=>h w (List.mem_cons_of_mem _ hw)]
  split
  ·have:x≠n:=by rintro rfl;exact h v List.mem_cons_self
   simp [this]
  ·rfl
theorem zeA {kindOf:Str→Option NameKind}{x:Str}:∀{binds:List (Str ×Value)} {m:Str→Option Value},(∀v,(x,v)∉binds)→bindC kindOf binds m x=m x
 | [],_,_=>rfl
 | (n,v)::r,m,h=>by
  unfold bindC
  rw [zeA fun w hw=>h w (List.mem_cons_of_mem _ hw)]
  split
  ·rfl
  ·have:x≠n:=by rintro rfl;exact h v List.mem_cons_self
   simp [this]
theorem zeE {kindOf:Str→Option NameKind}{x:Str}{v:Value}:∀{P:List Str} {vs:List Value} {i:Nat} {m:Str→Option Value},P.Nodup→P[i]? =some x→vs[i]? =some v→kindOf x=some .local→
  bindL kindOf (P.zip vs) m x=some v
 | [],_,_,_,_,h,_,_=>by simp at h
 | _::_,[],_,_,_,_,h,_=>by simp at h
 | p::P,w::vs,0,m,nd,h1,h2,hk=>by
  simp at h1 h2;subst h1;subst h2
  show bindL kindOf ((p,w)::P.zip vs) m p=_
  unfold bindL
  rw [zeJ fun v hv=>(List.nodup_cons.mp nd).1 (List.of_mem_zip hv).1,if_pos hk]
  simp
 | p::P,w::vs,i+1,m,nd,h1,h2,hk=>by
  show bindL kindOf ((p,w)::P.zip vs) m x=_
  unfold bindL
  exact zeE (i:=i) (List.nodup_cons.mp nd).2 (by simpa using h1) (by simpa using h2) hk
theorem zez {kindOf:Str→Option NameKind}{x:Str}{v:Value}:∀{P:List Str} {vs:List Value} {i:Nat} {m:Str→Option Value},P.Nodup→P[i]? =some x→vs[i]? =some v→kindOf x≠some .local→
  bindC kindOf (P.zip vs) m x=some v
 | [],_,_,_,_,h,_,_=>by simp at h
 | _::_,[],_,_,_,_,h,_=>by simp at h
 | p::P,w::vs,0,m,nd,h1,h2,hk=>by
  simp at h1 h2;subst h1;subst h2
  show bindC kindOf ((p,w)::P.zip vs) m p=_
  unfold bindC
  rw [zeA fun v hv=>(List.nodup_cons.mp nd).1 (List.of_mem_zip hv).1,if_neg hk]
  simp
 | p::P,w::vs,i+1,m,nd,h1,h2,hk=>by
  show bindC kindOf ((p,w)::P.zip vs) m x=_
  unfold bindC
  exact zez (i:=i) (List.nodup_cons.mp nd).2 (by simpa using h1) (by simpa using h2) hk
def start (N:List Str)(vs:List V):St:=vs.map some++List.replicate (N.length - vs.length) none
def cxOf (CX:CXT)(P:Program)(w:World)(K:PySem.W.Frag)(mg:Str→Option Value)(base:Heap)(N:List Str)(qual:Str)(scope:Scope)(f:Addr)(cd:Value)(A:Around)(outer:List Env)(s:Shared)(H:Hp)(E:XK):Cx where
 prog:=P
 w:=w
 K:=K
 mg:=mg
 base:=base
 A:=A.deeper (envOfC qual scope s.heap.objs.size f cd)
 N:=N
 s₀:=s
 H₀:=H
 env:=envOfC qual scope s.heap.objs.size f cd
 outer:=outer
 stack:=envOfC qual scope s.heap.objs.size f cd::outer
 ex:=[]
 calm:=true
 fn:=fun _=>true
 pn:=[]
 xe:=fun e s'=>wpAny (model P w) (A.deeper (envOfC qual scope s.heap.objs.size f cd)) (leaving (envOfC qual scope s.heap.objs.size f cd) e) (fun _ s''=>CX outer H s E e s'') (fun e' s''=>CX outer H s E e' s'') s'
theorem zfO {sc:Scope}{n:Nat}{x:Str}(h:sc.names.lookup x=some .cell):∃c,(cellsFrom n sc.names []).lookup x=some c:=by
 have q:=PySem.W.cellsFrom_some sc.names n [] (.inl h)
 exact Option.isSome_iff_exists.mp q
theorem zhA {CX:CXT}{P:Program}{w:World}{K:PySem.W.Frag}{mg:Str→Option Value}{base:Heap}{N ps:List Str}{qual:Str}{scope:Scope}{f:Addr}{cd:Value}{A:Around}{outer:List Env}{s s1:Shared}{H:Hp}{E:XK}{us:List Value}{vs:List V}
  (S:zm N ps scope) (hd:A.handled=none) (e0:Env0 P w K mg base A outer s H) (hl:vs.length=ps.length) (r:Vals vs us)
  (x:InCallC s s.heap.objs.size (bindL (envOfC qual scope s.heap.objs.size f cd).kindOf (ps.zip us) fun _=>none) (cellsFrom (s.heap.objs.size+1) scope.names []) (bindC (envOfC qual scope s.heap.objs.size f cd).kindOf (ps.zip us) fun _=>none) s1):
  Inv (cxOf CX P w K mg base N qual scope f cd A outer s H E) [] (start N vs) H s1:=by
 have hpl:ps.length≤N.length:=by have:=congrArg List.length S.pre;rw [List.length_take] at this;omega
 obtain ⟨h1,tk,rfl,hk⟩:=x.done
 have noA:∀b:Addr,b∉(cxOf CX P w K mg base N qual scope f cd A outer s H E).ex:=fun b z=>absurd (show b∈([]:List Addr) from z) (by simp)
 refine ⟨⟨e0.mod,S.kind,rfl,rfl,Nat.le_refl _,fun y z c h1 h2=>?_,fun y hy=>?_,fun y c _ h=>?_,fun _=>hd,Around.frames_deeper e0.frames,.inr ⟨rfl,rfl⟩,fun b z=>absurd z (noA b),e0.bs,e0.bsz,fun b _ _=>noA b,fun b z=>absurd z (noA b),e0.funs,e0.frf⟩,
  rfl,e0.bare,Un.kept hk,⟨_,x.toInCall.ns,fun i y v h1 h2 h3=>?_⟩,fun y c h=>⟨_,x.cell y c h⟩,e0.hok.fresh (Nat.le_refl _),fun y c h=>?_,fun p hp=>absurd (show p∈([]:List (Addr ×Obj)) from hp) (by simp),e0.hok.kept hk,?_⟩
 ·exact name_of_addr x.apart (PySem.mem_of_lookup h1) (PySem.mem_of_lookup h2)
 ·have hy:scope.names.lookup y=some .cell∨scope.names.lookup y=some .free:=hy
  rcases hy with hy | hy
  ·exact zfO hy
  ·exact absurd rfl (S.nofree _ (PySem.mem_of_lookup hy))
 ·exact Nat.le_of_lt (x.above y c (PySem.mem_of_lookup h))
 ·have hi:i < vs.length:=by
   unfold start at h2
   by_cases hi:i < vs.length
   ·exact hi
   ·rw [List.getElem?_append_right (by simpa using hi)] at h2
    rw [List.getElem?_replicate] at h2
    split at h2 <;> cases h2
  have ha:vs[i]? =some v:=by
   unfold start at h2
   rw [List.getElem?_append_left (by simpa using hi),List.getElem?_map] at h2
   cases e:vs[i]? with
   | none=>rw [e] at h2;cases h2
   | some a=>rw [e] at h2;cases h2;rfl
  obtain ⟨u,hu,rv⟩:=r.get ha
  have hp:ps[i]? =some y:=by
   rw [←S.pre,List.getElem?_take_of_lt (by omega)];exact h1
  have ndP:ps.Nodup:=by rw [←S.pre];exact S.nd.sublist (List.take_sublist _ _)
  refine ⟨u,rv,?_⟩
  rcases S.par y (List.mem_of_getElem? hp) with k | k
  ·exact .inl ⟨k,zeE ndP hp hu k⟩
  ·obtain ⟨c,e⟩:=zfO (n:=s.heap.objs.size+1) k
   refine .inr ⟨.inl k,c,e,?_⟩
   have q:=x.cell y c e
   rw [zez ndP hp hu (by show scope.names.lookup y≠_;rw [k];decide)] at q
   exact q
 ·exact e0.hok.fresh (Nat.le_of_lt (x.above y c (PySem.mem_of_lookup h)))
 ·unfold start
  show _=N.length
  rw [List.length_append,List.length_map,List.length_replicate]
  omega
theorem zkY {CX:CXT}{P:Program}{w:World}{K:PySem.W.Frag}{mg:Str→Option Value}{base:Heap}{k:Nat}{f:Addr}{name qual:Str}{params:Arguments}{body:List Stmt}{scope:Scope}{dV kV doc pm cdv ct oc:Value}{an od:Option Addr}
  {osl:Array (Option Value)} {N ps:List Str} {sp:Sp} (lk:K.lookup f=some ⟨oc,od,.func (PySem.W.fnOf name qual params body scope dV kV doc pm an cdv ct),osl⟩) (hcd:PySem.W.codeIn K cdv qual=true) (S:zm N ps scope)
  (len:∀vs H Q E,sp vs H Q E→vs.length=ps.length)
  (hbody:∀(A:Around) (outer:List Env) (s:Shared) (H:Hp) (vs:List V) (Q:VK) (E:XK),Room k (A.deeper (envOfC qual scope s.heap.objs.size f cdv))→sp vs H Q E→
   ∃t,PSs (cxOf CX P w K mg base N qual scope f cdv A outer s H E) body t∧t {nx:=fun _ H'=>Q .non H',rt:=Q} (start N vs) H):
  FnOk P w K mg base CX (k+1) f (PySem.W.fnOf name qual params body scope dV kV doc pm an cdv ct) ps sp:=by
 refine ⟨len,fun A outer s H args us vs Q E hr e0 hb r hsp=>?_⟩
 have hl:=len _ _ _ _ hsp
 have KX:K.In s.heap:=e0.mod.kin.keeps fun b o e=>(e0.bs b o e).1
 have lim:s.heap.NoLimit:=e0.mod.nolimit.keeps fun b o e=>(e0.bs b o e).1
 have hkind:∀y∈ps.zip us,scope.names.lookup y.1=some .local∨(scope.names.lookup y.1=some .cell∧((cellsFrom (s.heap.objs.size+1) scope.names []).lookup y.1).isSome=true):=fun ⟨n,v⟩ hy=>by
  rcases S.par n (List.of_mem_zip hy).1 with q | q
  ·exact .inl q
  ·exact .inr ⟨q,PySem.W.cellsFrom_some _ _ _ (.inl q)⟩
 refine codeAny_call_function hr.depth (KX _ _ lk) rfl S.co S.gen rfl (PySem.W.codeRec_of KX hcd) (hb _ _ _ _ ?_)
 refine wpAny_newFunctionEnv_cells S.kind hkind fun env he s1 x=>?_
 subst he
 refine ⟨lim.keeps x.toInCall.keep,codeAny_func ?_⟩
 obtain ⟨t,ht,hq⟩:=hbody A outer s H vs Q E (hr.deeper _) hsp
 have I:Inv (cxOf CX P w K mg base N qual scope f cdv A outer s H E) [] (start N vs) H s1:=zhA S hr.hd e0 hl r x
 refine wpAny_mono (ht [] s1 (start N vs) H _ I hq) (fun fl s' hs=>?_) fun e s' hs=>hs
 have fin:∀{σ':St} {H':Hp} {v:V} {u:Value},Inv (cxOf CX P w K mg base N qual scope f cdv A outer s H E) [] σ' H' s'→RelV v u→Q v H'→CE outer P w H s Q u s':=
  fun {σ' H' v u} J rv q=>⟨v,H',J.os,J.bare,J.base,J.hok,rv,q⟩
 cases fl with
 | ret u=>
  obtain ⟨v,σ',H',J,rv,q⟩:=hs
  exact fin J rv q
 | next=>
  obtain ⟨σ',H',J,q⟩:=hs
  exact fin (v:=V.non) (u:=Value.none) J rfl q
 | brk=>
  obtain ⟨_,_,_,q⟩:=hs
  exact False.elim q
 | cont=>
  obtain ⟨_,_,_,q⟩:=hs
  exact False.elim q
end L2
namespace L2
open PySem PySem.Spec PyProof.Rows
section
variable {X:Cx}{x:Str}{p pos:Pos}{e:Expr}{es:List Expr}{t:TA}{id T:String}{r:List V→Hp→VK→Prop}
def tCB (r:List V→Hp→VK→Prop)(t:TA):TE:=fun σ H Q=>t σ H fun vs H1=>r vs H1 Q
theorem zF (hc:zaW X (.builtin id) r)(hg:Gl X x)(hm:X.mg x=none)(hv:bootBuiltins x=some (.builtin id))(ha:PA X (e::es) t)(hn:x≠ "__name__" :=by decide) (hdb:(x==("__debug__" :Str))=false:=by decide)
  (he:starEach (e::es) X.env=(false,eval e X.env)::starEach es X.env:=by rfl) (hpl:(backTo pos (starEach es X.env)).any (·.1)=false:=by rfl):PE X (.Call (.Name x p) (e::es) [] pos) (tCB r t):=by
 intro pins s σ H Q I h
 refine wpAny_Call_Name_kw (zdd I hg hm hv ?_ hn hdb)
 exact PyProof.Rows.callWith_builtin1 (thn (ha pos pins s σ H _ I h) fun us s1 ⟨vs,H1,I1,r1,q1⟩=>hc pins s1 σ H1 vs us Q I1 r1 q1) he hpl
theorem zde (hc:zaW X (.type T) r)(hg:Gl X x)(hm:X.mg x=none)(hv:bootBuiltins x=some (.type T))(ha:PA X (e::es) t)(hn:x≠ "__name__" :=by decide) (hdb:(x==("__debug__" :Str))=false:=by decide)
  (he:starEach (e::es) X.env=(false,eval e X.env)::starEach es X.env:=by rfl) (hpl:(backTo pos (starEach es X.env)).any (·.1)=false:=by rfl):PE X (.Call (.Name x p) (e::es) [] pos) (tCB r t):=by
 intro pins s σ H Q I h
 refine wpAny_Call_Name_kw (zdd I hg hm hv ?_ hn hdb)
 exact PyProof.Rows.callWith_type1 (thn (ha pos pins s σ H _ I h) fun us s1 ⟨vs,H1,I1,r1,q1⟩=>hc pins s1 σ H1 vs us Q I1 r1 q1) he hpl
end
end L2
namespace HT
open PySem PyProof.Rows
def lexLt:List Int→List Int→Bool
 | [],[]=>false
 | [],_::_=>true
 | _::_,[]=>false
 | x::xs,y::ys=>if x=y then lexLt xs ys else decide (x < y)
theorem lexLt_cons (x y:Int)(xs ys:List Int):lexLt (x::xs) (y::ys)=if x=y then lexLt xs ys else decide (x < y):=rfl
section
open PySem.SeqAt
open PySem.AutoSeq1 (wpAny_loadPart')
open PySem.MeetsSeq PySem.MeetsSeq2 PySem.MeetsSeq3
end
section
variable {prog:Program}{w:World}{A:Around}{E:Value→Shared→Prop}{s:Shared}
theorem cat_tup {t b:Addr}{vs ws:List Value}{Q:Value→Shared→Prop}(ht:IsTup s.heap t vs.toArray)(hb:IsTup s.heap b ws.toArray)(hv:vs≠ [])
  (h1:ws=[]→Q (.ref t) s) (h2:ws≠ []→Q (.ref s.heap.objs.size) {s with heap:=s.heap.push {cls:=.type "tuple",data:=.seq (vs++ws).toArray}})
  (hsz:vs.length+ws.length≤sizeLine):wpAny (model prog w) A (binaryOp .Add (.ref t) (.ref b)) Q E s:=by
 obtain ⟨⟨cls,dd,data,sl⟩,ho,hc,n,hd⟩:=id ht
 obtain ⟨⟨cls2,dd2,data2,sl2⟩,ho2,hc2,n2,hd2⟩:=id hb
 simp only at hc hd hc2 hd2
 subst hc hd hc2 hd2
 have e:vs.toArray++ws.toArray=(vs++ws).toArray:=by simp
 by_cases hw:ws=[]
 ·exact concat_meets ⟨_,ho,rfl⟩ ⟨_,ho2,rfl⟩ noFill_tuple_add seq_tuple_add PySem.F.slot_tuple_add PySem.F.entry_tuple_add (PySem.F.args_tuple_add_2 _ _)
   (tuple_addW1 t b vs.toArray ws.toArray n n2 dd dd2 sl sl2 (by simpa using hv) (by simp [hw])) ⟨ho,ho2,h1 hw⟩
 ·refine concat_meets ⟨_,ho,rfl⟩ ⟨_,ho2,rfl⟩ noFill_tuple_add seq_tuple_add PySem.F.slot_tuple_add PySem.F.entry_tuple_add (PySem.F.args_tuple_add_2 _ _)
   (tuple_addW2 t b vs.toArray ws.toArray n n2 dd dd2 sl sl2 (by simpa using hv) (by simpa using hw) (by rw [List.size_toArray,List.size_toArray];exact hsz)) ⟨ho,ho2,?_⟩
  rw [e]
  exact h2 hw
def sIx (n d:Nat):Option Int→Nat
 | none=>d
 | some v=>if v < 0 then (v+(n:Int)).toNat else min v.toNat n
theorem sIx_nat (n d k:Nat):sIx n d (some (k:Int))=min k n:=by
 show (if (k:Int) < 0 then ((k:Int)+(n:Int)).toNat else min (k:Int).toNat n)=min k n
 rw [if_neg (by omega),Int.toNat_natCast]
theorem sIx_le (n d:Nat)(hd:d≤n)(o:Option Int):sIx n d o≤n:=by
 cases o with
 | none=>exact hd
 | some v=>
  show (if v < 0 then (v+(n:Int)).toNat else min v.toNat n)≤n
  by_cases hv:v < 0
  ·rw [if_pos hv];omega
  ·rw [if_neg hv];exact Nat.min_le_right _ _
theorem clip_eq (v:Int)(n d:Nat):(if v < 0 then max (v+(n:Int)) 0 else min v (n:Int))=((sIx n d (some v):Nat):Int):=by
 show (if v < 0 then max (v+(n:Int)) 0 else min v (n:Int))=(((if v < 0 then (v+(n:Int)).toNat else min v.toNat n):Nat):Int)
 by_cases hv:v < 0
 ·simp only [if_pos hv];omega
 ·simp only [if_neg hv];omega
theorem zgy (lo hi:Option Int)(n:Nat):Builtin.Slice.sliceAdjust lo hi 1 (n:Int)=(((sIx n 0 lo:Nat):Int),((sIx n n hi:Nat):Int)):=by
 have h1:¬((1:Int) < 0):=by omega
 unfold Builtin.Slice.sliceAdjust
 simp only [h1,if_false]
 refine Prod.ext ?_ ?_
 ·cases lo with
  | none=>rfl
  | some v=>exact clip_eq v n 0
 ·cases hi with
  | none=>rfl
  | some v=>exact clip_eq v n n
theorem zgm (i j:Nat):Builtin.Slice.slicePlaces (i:Int) (j:Int) 1=j - i:=by
 unfold Builtin.Slice.slicePlaces
 have h1:(1:Int) > 0:=by omega
 simp only [h1,if_true,Int.ediv_one]
 split <;> omega
theorem zdO {v:Value}{o:Option Int}{Q:Option Int→Shared→Prop}(p:IsPart v o)(h:Q o s):wpAny (model prog w) A (Builtin.Slice.slicePartIndex v) Q E s:=by
 cases p with
 | none=>exact slicePart_none h
 | int i t=>exact slicePart_int h
theorem zdo {sl:Addr}{vl vu:Value}{lo hi:Option Int}{n:Nat}{Q:Int ×Int ×Nat→Shared→Prop}(hs:s.heap.IsSliceOf sl vl vu .none)(pl:IsPart vl lo)(pu:IsPart vu hi)
  (h:Q (((sIx n 0 lo:Nat):Int),1,sIx n n hi - sIx n 0 lo) s):wpAny (model prog w) A (Builtin.Slice.sliceApplied (.ref sl) (pure (n:Int))) Q E s:=by
 obtain ⟨os,hos,hcs,hds⟩:=id hs
 unfold Builtin.Slice.sliceApplied Builtin.Slice.sliceFields
 refine wpAny_bind (wpAny_bind (wpAny_field hos hds (x:=vl) rfl (wpAny_bind (wpAny_field hos hds (x:=vu) rfl (wpAny_bind (wpAny_field hos hds (x:=.none) rfl (wpAny_pure ?_)))))))
 refine wpAny_bind (slicePart_none ?_)
 show wpAny _ _ (if ((1:Int)==0)=true then _ else _) _ _ s
 rw [if_neg (by decide)]
 refine wpAny_bind (zdO pl (wpAny_bind (zdO pu (wpAny_bind (wpAny_pure ?_)))))
 show wpAny _ _ (match Builtin.Slice.sliceAdjust lo hi 1 (n:Int) with | (lo,hi)=>pure (lo,(1:Int),Builtin.Slice.slicePlaces lo hi 1)) _ _ s
 rw [zgy lo hi n]
 show wpAny _ _ (pure (((sIx n 0 lo:Nat):Int),(1:Int),Builtin.Slice.slicePlaces ((sIx n 0 lo:Nat):Int) ((sIx n n hi:Nat):Int) 1)) _ _ s
 rw [zgm]
 exact wpAny_pure h
theorem zis (xs:Array Value)(i k:Nat):((List.range k).filterMap fun (m:Nat)=>xs[((i:Int)+(m:Int) * 1).toNat]?).toArray=((xs.toList.drop i).take k).toArray:=by
 have e:(fun (m:Nat)=>xs[((i:Int)+(m:Int) * 1).toNat]?)=fun m=>xs[i+m]? :=by
  funext m
  have:((i:Int)+(m:Int) * 1).toNat=i+m:=by omega
  rw [this]
 rw [e]
 have:=pick_run xs i k
 rw [List.filterMap_map] at this
 have e2:((fun x=>xs[x]?) ∘ fun x=>i+x)=fun m=>xs[i+m]? :=rfl
 rw [e2] at this
 rw [this]
theorem getItem_tuple_cut {t sl:Addr}{items:Array Value}{vl vu:Value}{lo hi:Option Int}{Q:Value→Shared→Prop}(ht:IsTup s.heap t items)(hs:s.heap.IsSliceOf sl vl vu .none)(pl:IsPart vl lo)(pu:IsPart vu hi)
  (hw:¬(sIx items.size 0 lo=0∧sIx items.size items.size hi=items.size))
  (h:Q (.ref s.heap.objs.size) {s with heap:=s.heap.push {cls:=.type "tuple",data:=.seq ((items.toList.drop (sIx items.size 0 lo)).take (sIx items.size items.size hi - sIx items.size 0 lo)).toArray}})
  (hsz:items.size≤sizeLine):wpAny (model prog w) A (getItem (.ref t) (.ref sl)) Q E s:=by
 have htake:sizeOk (.seq ((items.toList.drop (sIx items.size 0 lo)).take (sIx items.size items.size hi - sIx items.size 0 lo)).toArray):=by
  show ((items.toList.drop (sIx items.size 0 lo)).take (sIx items.size items.size hi - sIx items.size 0 lo)).toArray.size≤sizeLine
  rw [List.size_toArray,List.length_take,List.length_drop,Array.length_toList]
  omega
 have hj:sIx items.size items.size hi≤items.size:=sIx_le _ _ (Nat.le_refl _) hi
 obtain ⟨os,hos,hcs,hds⟩:=id hs
 have hTs:s.TypeIs (.ref sl) "slice" :=⟨os,hos,hcs⟩
 unfold getItem
 try with_reducible refine wpAny_holding ?_
 first | refine wpAny_bind (wpAny_pure ?_) | skip
 refine wpAny_bind (wpAny_sequenceKey ht.typeIs (by decide) ?_)
 refine wpAny_bind (wpAny_callSpecial?_slot (name:=Str.ofString "__getitem__") ht.typeIs PyProof.Rows.slot_tuple_getitem
  (wpAny_call_entry PyProof.Rows.slot_tuple_getitem ht.typeIs entry_tuple_getitem ?_ (args_tuple_getitem _ _)))
 show wpAny _ _ (Builtin.Tuple.tupleItemsOf (.ref t) >>=_) _ _ s
 refine wpAny_bind (tupleItemsOf_ ht ?_)
 refine wpAny_bind (wpAny_typeOf hTs ?_)
 rw [if_pos (by decide)]
 refine wpAny_bind (zdo hs pl pu ?_)
 have hno:¬((((sIx items.size 0 lo:Nat):Int)==0 && (1:Int)==1 && (sIx items.size items.size hi - sIx items.size 0 lo)==items.size)=true):=by
  intro q
  rw [Bool.and_eq_true,Bool.and_eq_true] at q
  have q1:((sIx items.size 0 lo:Nat):Int)=0:=eq_of_beq q.1.1
  have q2:sIx items.size items.size hi - sIx items.size 0 lo=items.size:=eq_of_beq q.2
  exact hw ⟨by omega,by omega⟩
 show wpAny _ _ (if (((sIx items.size 0 lo:Nat):Int)==0 && (1:Int)==1 && (sIx items.size items.size hi - sIx items.size 0 lo)==items.size)=true then _ else _) _ _ s
 rw [if_neg hno,zis]
 first
  | exact wpAny_bind (m:=Builtin.Tuple.tupleExact _) (wpAny_newObj_type (wpAny_pure ⟨_,rfl,wpAny_pure h⟩) htake)
  | exact wpAny_bind (m:=Builtin.Tuple.tupleExact _) (wpAny_newObj_type (wpAny_bind (wpAny_pure (wpAny_pure ⟨_,rfl,wpAny_pure h⟩))) htake)
  | exact wpAny_bind (wpAny_bind (m:=Builtin.Tuple.tupleExact _) (wpAny_newObj_type (wpAny_pure (wpAny_pure ⟨_,rfl,wpAny_pure h⟩)) htake))
  | exact wpAny_bind (wpAny_bind (m:=Builtin.Tuple.tupleExact _) (wpAny_newObj_type (wpAny_pure ⟨_,rfl,wpAny_pure h⟩) htake))
end
end HT
namespace L2
open PySem PySem.Spec PyProof.Rows
abbrev TO:=St→Hp→(Option Int→Hp→Prop)→Prop
def PO (X:Cx)(e:Option Expr)(t:TO):Prop:=
 ∀(pins:List (Addr ×Obj)) (s:Shared) (σ:St) (H:Hp) (Q:Option Int→Hp→Prop),Inv X pins σ H s→t σ H Q→
  wpAny (model X.prog X.w) X.A (evalPart e X.env) (fun u s'=>∃o H',Inv X pins σ H' s'∧IsPart u o∧Q o H') X.xe s
def zkA:TO:=fun _ H Q=>Q none H
def zmp (t:TE):TO:=fun σ H Q=>t σ H fun x H1=>∃i,x=.int i∧Q (some i) H1
section
variable {X:Cx}{e:Expr}{te:TE}{lo hi:Option Expr}{tl th:TO}{pos p2:Pos}
theorem zc4:PO X none zkA:=by
 intro pins s σ H Q I h
 rw [evalPart_none]
 exact wpAny_pure ⟨none,H,I,.none,h⟩
theorem zbY (h:PE X e te):PO X (some e) (zmp te):=by
 intro pins s σ H Q I hw
 rw [evalPart_some]
 refine thn (h pins s σ H _ I hw) fun u s1 ⟨x,H1,I1,r1,q1⟩=>?_
 obtain ⟨i,rfl,q⟩:=q1
 obtain ⟨t,rfl⟩:=r1
 exact ⟨some i,H1,I1,.int i t,q⟩
def SlR (X:Cx)(r:V→Option Int→Option Int→Hp→VK→Prop):Prop:=
 ∀(pins:List (Addr ×Obj)) (s:Shared) (σ:St) (H:Hp) (x:V) (v vl vu:Value) (lo hi:Option Int) (sl:Addr) (Q:VK),Inv X pins σ H s→RelV x v→s.heap.IsSliceOf sl vl vu .none→IsPart vl lo→IsPart vu hi→r x lo hi H Q→
  ∃T id,typeLookup (.type T) "__getitem__" =pure (some (.builtin id))∧s.TypeIs v T∧wpAny (model X.prog X.w) X.A (getItem v (.ref sl)) (EP X pins σ Q) X.xe s
theorem SlR.or {r r':V→Option Int→Option Int→Hp→VK→Prop}(h:SlR X r)(h':SlR X r'):SlR X (fun x lo hi H Q=>r x lo hi H Q∨r' x lo hi H Q):=by
 intro pins s σ H x v vl vu lo hi sl Q I rx hs pl pu q
 rcases q with q | q
 ·exact h pins s σ H x v vl vu lo hi sl Q I rx hs pl pu q
 ·exact h' pins s σ H x v vl vu lo hi sl Q I rx hs pl pu q
def tSl (r:V→Option Int→Option Int→Hp→VK→Prop)(te:TE)(tl th:TO):TE:=fun σ H Q=>te σ H fun x H1=>tl σ H1 fun l H2=>th σ H2 fun u H3=>r x l u H3 Q
theorem zbP {r:V→Option Int→Option Int→Hp→VK→Prop}(hr:SlR X r)(he:PE X e te)(hl:PO X lo tl)(hu:PO X hi th):PE X (.Subscript e (.Slice lo hi none p2) pos) (tSl r te tl th):=by
 intro pins s σ H Q I h
 refine Subscript_ (thn (he pins s σ H _ I h) fun v s1 ⟨x,H1,I1,r1,q1⟩=>?_)
 refine wpAny_Slice (thn (hl pins s1 σ H1 _ I1 q1) fun vl s2 ⟨l,H2,I2,pl,q2⟩=>thn (hu pins s2 σ H2 _ I2 q2) fun vu s3 ⟨u,H3,I3,pu,q3⟩=>?_)
 rw [evalPart_none]
 refine wpAny_pure ?_
 have I4:Inv X pins σ H3 {s3 with heap:=s3.heap.push {cls:=.type "slice",data:=.fields #[vl,vu,.none]}}:=I3.kept (t':=s3.toks) fun b ob q=>Heap.get?_push_of_some _ q
 obtain ⟨T,id,hT,ht,hg⟩:=hr pins {s3 with heap:=s3.heap.push {cls:=.type "slice",data:=.fields #[vl,vu,.none]}} σ H3 x v vl vu l u s3.heap.objs.size Q I4 r1 (Heap.IsSliceOf.new ..) pl pu q3
 show wpAny (model X.prog X.w) X.A (subscriptTail e (.Slice lo hi none p2) v (.ref s3.heap.objs.size)) (EP X pins σ Q) X.xe {s3 with heap:=s3.heap.push {cls:=.type "slice",data:=.fields #[vl,vu,.none]}}
 exact tail_any (ops:=[.ref s3.heap.objs.size,v]) ht hT hg (by with_unfolding_all rfl)
def cutV (xs:List V)(lo hi:Option Int):List V:=(xs.drop (HT.sIx xs.length 0 lo)).take (HT.sIx xs.length xs.length hi - HT.sIx xs.length 0 lo)
theorem zdq (xs:List V)(lo hi:Option Int):(cutV xs lo hi).length≤xs.length:=by
 unfold cutV
 rw [List.length_take,List.length_drop]
 omega
def rSlT (K:PySem.W.Frag):V→Option Int→Option Int→Hp→VK→Prop:=fun x lo hi H Q=>∃a xs,x=.ref a∧SqT K H a xs∧
 ¬(HT.sIx xs.length 0 lo=0∧HT.sIx xs.length xs.length hi=xs.length)∧∀p,H p=none→Q (.ref p) (upd H p (.tup (cutV xs lo hi)))
theorem zf7:SlR X (rSlT X.K):=by
 intro pins s σ H x v vl vu lo hi sl Q I rx hs pl pu h
 obtain ⟨a,xs,rfl,hx,hw,q⟩:=h
 cases rx
 obtain ⟨its,r,ht,hz⟩:=I.tuple hx
 have hlen:its.toArray.size=xs.length:=by rw [List.size_toArray];exact r.length.symm
 refine ⟨"tuple",_,PyProof.Rows.slot_tuple_getitem.lookup,ht.typeIs,?_⟩
 refine HT.getItem_tuple_cut ht hs pl pu (by rw [hlen];exact hw) ?_ (by rw [hlen];exact hz)
 rw [hlen]
 refine ⟨.ref s.heap.objs.size,_,I.laid (t':=s.toks) (o:=.tup (cutV xs lo hi)) (fun b ob q=>Heap.get?_push_of_some _ q) (Nat.le_refl _) ?_,rfl,q _ (I.hok.fresh (Nat.le_refl _))⟩
 exact ⟨Nat.le_trans (zdq xs lo hi) hz,_,(r.drop (HT.sIx xs.length 0 lo)).take (HT.sIx xs.length xs.length hi - HT.sIx xs.length 0 lo),IsTup.new _ _⟩
def rLtT (K:PySem.W.Frag):R2:=fun x y H Q=>∃a b ns ms,x=.ref a∧y=.ref b∧SqT K H a (ns.map V.int)∧SqT K H b (ms.map V.int)∧Q (.bl (HT.lexLt ns ms)) H
def zmn (K:PySem.W.Frag):R2:=fun x y H Q=>∃a b xs ys,x=.ref a∧y=.ref b∧SqT K H a xs∧SqT K H b ys∧xs≠ []∧xs.length+ys.length≤sizeLine∧
 (ys=[]→Q (.ref a) H)∧(ys≠ []→∀p,H p=none→Q (.ref p) (upd H p (.tup (xs++ys))))
theorem Vals.nil_iff {xs:List V}{us:List Value}(r:Vals xs us):us=[]↔xs=[]:=by
 cases r with
 | nil=>simp
 | cons _ _=>simp
theorem zkd:OpR X (binaryOp .Add) (zmn X.K):=by
 intro pins s σ H x y v u Q I rx ry h
 obtain ⟨a,b,xs,ys,rfl,rfl,ha,hb,hx,hz,q1,q2⟩:=h
 cases rx
 cases ry
 obtain ⟨its,r1,p1,_⟩:=I.tuple ha
 obtain ⟨its2,r2,p2,_⟩:=I.tuple hb
 refine HT.cat_tup p1 p2 (fun z=>hx (r1.nil_iff.mp z)) (fun z=>⟨.ref a,H,I,rfl,q1 (r2.nil_iff.mp z)⟩) (fun z=>?_) (by rw [←r1.length,←r2.length];exact hz)
 refine ⟨.ref s.heap.objs.size,_,I.laid (t':=s.toks) (o:=.tup (xs++ys)) (fun b ob q=>Heap.get?_push_of_some _ q) (Nat.le_refl _) ?_,rfl,q2 (fun w=>z (r2.nil_iff.mpr w)) _ (I.hok.fresh (Nat.le_refl _))⟩
 exact ⟨by rw [List.length_append];exact hz,_,r1.append r2,IsTup.new _ _⟩
end
end L2
namespace L2
open PySem PySem.Spec PyProof.Rows
def ixN (n:Nat)(i:Int):Option Nat:=if 0≤i then (if i < n then some i.toNat else none) else if -(n:Int)≤i then some (i+n).toNat else none
def atI {α:Type}(xs:List α)(i:Int):Option α:=(ixN xs.length i).bind fun j=>xs[j]?
theorem zg8 {n:Nat}{i:Int}{j:Nat}(h:ixN n i=some j):seqIndex? i n=some j∧j < n∧ -(n:Int)≤i∧i < n:=by
 unfold ixN at h
 by_cases h0:0≤i
 ·rw [if_pos h0] at h
  by_cases h1:i < n
  ·rw [if_pos h1] at h
   have e:i.toNat=j:=Option.some.inj h
   exact ⟨by rw [seqIndex_of h0 h1,e],by omega,by omega,h1⟩
  ·rw [if_neg h1] at h;cases h
 ·rw [if_neg h0] at h
  by_cases h1: -(n:Int)≤i
  ·rw [if_pos h1] at h
   have e:(i+n).toNat=j:=Option.some.inj h
   exact ⟨by rw [seqIndex_neg (by omega) h1,e],by omega,h1,by omega⟩
  ·rw [if_neg h1] at h;cases h
theorem zg2 {α:Type}{xs:List α}{i:Int}{v:α}(h:atI xs i=some v):∃j,seqIndex? i xs.length=some j∧xs[j]? =some v∧j < xs.length∧ -(xs.length:Int)≤i∧i < xs.length:=by
 unfold atI at h
 cases e:ixN xs.length i with
 | none=>rw [e] at h;cases h
 | some j=>
  rw [e] at h
  obtain ⟨h1,h2,h3,h4⟩:=zg8 e
  exact ⟨j,h1,h,h2,h3,h4⟩
theorem zbR {α:Type}(xs:List α)(v:α):atI (xs++ [v]) (-1)=some v:=by
 have hl:(xs++ [v]).length=xs.length+1:=by simp
 have e:ixN (xs++ [v]).length (-1)=some xs.length:=by
  unfold ixN
  rw [hl,if_neg (by decide),if_pos (by omega)]
  congr 1
  omega
 unfold atI
 rw [e]
 show (xs++ [v])[xs.length]? =some v
 simp
def zku (b:Expr):Prop:=∀o i,subscripted b false o i=operate [o,i] (getItem o i)
def IxR (X:Cx)(r:R2):Prop:=
 ∀(value slice:Expr) (pins:List (Addr ×Obj)) (s:Shared) (σ:St) (H:Hp) (x y:V) (v u:Value) (Q:VK),Inv X pins σ H s→RelV x v→RelV y u→r x y H Q→
  subscripted slice false v u=operate [v,u] (getItem v u)→wpAny (model X.prog X.w) X.A (subscriptTail value slice v u) (EP X pins σ Q) X.xe s
def MtR (X:Cx)(id:String)(r:V→List V→Hp→VK→Prop):Prop:=
 ∀(pins:List (Addr ×Obj)) (s:Shared) (σ:St) (H:Hp) (x:V) (xs:List V) (v:Value) (us:List Value) (Q:VK),Inv X pins σ H s→RelV x v→Vals xs us→r x xs H Q→
  wpAny (model X.prog X.w) X.A (call (.builtin id) (v::us)) (EP X pins σ Q) X.xe s
section
variable {X:Cx}{a b:Expr}{ta tb:TE}{pos:Pos}
theorem IxR.or {r r':R2}(h:IxR X r)(h':IxR X r'):IxR X (fun x y H Q=>r x y H Q∨r' x y H Q):=by
 intro value slice pins s σ H x y v u Q I rx ry q hs
 rcases q with q | q
 ·exact h value slice pins s σ H x y v u Q I rx ry q hs
 ·exact h' value slice pins s σ H x y v u Q I rx ry q hs
theorem MtR.or {id:String}{r r':V→List V→Hp→VK→Prop}(h:MtR X id r)(h':MtR X id r'):MtR X id (fun x xs H Q=>r x xs H Q∨r' x xs H Q):=by
 intro pins s σ H x xs v us Q I rx rs q
 rcases q with q | q
 ·exact h pins s σ H x xs v us Q I rx rs q
 ·exact h' pins s σ H x xs v us Q I rx rs q
theorem zz {r:R2}(hr:IxR X r)(ha:PE X a ta)(hb:PE X b tb)(hs:zku b):PE X (.Subscript a b pos) (tOp r ta tb):=by
 intro pins s σ H Q I h
 exact Subscript_ (binT ha hb I h fun v u s2 x y H2 I2 rx ry q=>hr a b pins s2 σ H2 x y v u Q I2 rx ry q (hs _ _))
def rIxL (K:PySem.W.Frag):R2:=fun x y H Q=>∃p xs i v,x=.ref p∧y=.int i∧SqL K H p xs∧atI xs i=some v∧Q v H
def rIxT (K:PySem.W.Frag):R2:=fun x y H Q=>∃p xs i v,x=.ref p∧y=.int i∧SqT K H p xs∧atI xs i=some v∧Q v H
def rIxS:R2:=fun x y H Q=>∃z i c,x=.str z∧y=.int i∧z.length≤sizeLine∧atI z.cps.toList i=some c∧Q (.str ⟨#[c]⟩) H
theorem zI:IxR X (rIxL X.K):=by
 intro value slice pins s σ H x y v u Q I rx ry h hs
 obtain ⟨p,xs,i,z,rfl,rfl,hq,he,q⟩:=h
 cases rx
 obtain ⟨t,rfl⟩:=ry
 obtain ⟨its,r,pl,hz⟩:=I.list hq
 obtain ⟨j,h1,h2,h3,h4,h5⟩:=zg2 he
 obtain ⟨w,ew,rw'⟩:=r.get h2
 have hl:=r.length
 have hn:=zee
 have fin:EP X pins σ Q w s:=⟨z,H,I,rw',q⟩
 by_cases h0:0≤i
 ·have hj:i.toNat=j:=by
   rw [seqIndex_of h0 h5] at h1
   exact Option.some.inj h1
  exact item_listR pl.isList h0 (by omega) (by rw [hj];simpa using ew) fin hs
 ·have hj:(i+(its.toArray.size:Int)).toNat=j:=by
   rw [seqIndex_neg (by omega) h4] at h1
   rw [List.size_toArray,←hl]
   exact Option.some.inj h1
  exact subscriptTail_builtinR (x:=w) pl.isList.typeIs slot_list_getitem.lookup
   (wpAny_getItem_list_neg (Q:=fun r s'=>r=w∧EP X pins σ Q r s') pl.isList (by omega) (by rw [List.size_toArray] <;> omega) (by omega) (by rw [hj];simpa using ew) ⟨rfl,fin⟩) hs
theorem zH:IxR X (rIxT X.K):=by
 intro value slice pins s σ H x y v u Q I rx ry h hs
 obtain ⟨p,xs,i,z,rfl,rfl,hq,he,q⟩:=h
 cases rx
 obtain ⟨t,rfl⟩:=ry
 obtain ⟨its,r,pl,hz⟩:=I.tuple hq
 obtain ⟨j,h1,h2,h3,h4,h5⟩:=zg2 he
 obtain ⟨w,ew,rw'⟩:=r.get h2
 have hl:=r.length
 have hn:=zee
 have fin:EP X pins σ Q w s:=⟨z,H,I,rw',q⟩
 exact subscriptTail_builtinR (x:=w) pl.typeIs slot_tuple_getitem.lookup
  (getItem_tuple (j:=j) (Q:=fun r s'=>r=w∧EP X pins σ Q r s') pl (by omega) (by omega) (by rw [List.size_toArray,←hl];exact h1) (by simpa using ew) ⟨rfl,fin⟩) hs
def rIx (K:PySem.W.Frag):R2:=fun x y H Q=>rIxL K x y H Q∨rIxT K x y H Q∨rIxS x y H Q
theorem zf5 (its:List Value)(n j:Nat)(u:Value):Obj.mapSeq (·.setIfInBounds j u) {cls:=.type "list",data:=.seq its.toArray n}={cls:=.type "list",data:=.seq (its.set j u).toArray n}:=by
 simp [Obj.mapSeq]
theorem Inv.lst {pins:List (Addr ×Obj)}{σ:St}{H:Hp}{s:Shared}{p:Addr}{xs:List V}(I:Inv X pins σ H s)(h:H p=some (.lst xs)):
  ∃(its:List Value) (n:Nat),Vals xs its∧s.heap.get? p=some {cls:=.type "list",data:=.seq its.toArray n}∧xs.length≤sizeLine:=by
 obtain ⟨z,its,n,r,e⟩:=I.hok p _ h
 exact ⟨its,n,r,e,z⟩
theorem Inv.lstUpd {pins:List (Addr ×Obj)}{σ:St}{H:Hp}{s:Shared}{p:Addr}{xs ys:List V}{its its':List Value}{n n':Nat}{f:Obj→Obj}(I:Inv X pins σ H s)(h:H p=some (.lst xs))
  (ho:s.heap.get? p=some {cls:=.type "list",data:=.seq its.toArray n}) (hf:f {cls:=.type "list",data:=.seq its.toArray n}={cls:=.type "list",data:=.seq its'.toArray n'}) (r:Vals ys its') (hz:ys.length≤sizeLine) (t:Nat):
  Inv X pins σ (upd H p (.lst ys)) {s with heap:=s.heap.update p f,toks:=t}:=by
 have e:(s.heap.update p f).get? p=some {cls:=.type "list",data:=.seq its'.toArray n'}:=by
  rw [Heap.get?_update_self f ho (by rw [hf] <;> rfl),hf]
 refine I.write (x:=p) (e:=p) (by rw [h];trivial) (.inl rfl) (fun b u hb q=>(Heap.get?_update_other _ _ (Ne.symm hb)).trans q) ⟨_,e⟩ ?_
 exact ⟨hz,its',n',r,e⟩
def zmk:V→V→V→Hp→(Hp→Prop)→Prop:=fun o i v H Q=>∃p xs k j,o=.ref p∧i=.int k∧H p=some (.lst xs)∧ixN xs.length k=some j∧Q (upd H p (.lst (xs.set j v)))
theorem set_list:PSet X zmk:=by
 intro pins s σ H o i v ov iv u Q I ro ri rv h
 obtain ⟨p,xs,k,j,rfl,rfl,hp,hj,q⟩:=h
 cases ro
 obtain ⟨t,rfl⟩:=ri
 obtain ⟨its,n,r,ho,hz⟩:=I.lst hp
 obtain ⟨h1,h2,h3,h4⟩:=zg8 hj
 have hl:=r.length
 have hn:=zee
 have I':Inv X pins σ (upd H p (.lst (xs.set j v))) {s with heap:=s.heap.update p (Obj.mapSeq (·.setIfInBounds j u))}:=
  I.lstUpd hp ho (zf5 its n j u) (r.set rv j) (by rw [List.length_set];exact hz) s.toks
 by_cases h0:0≤k
 ·have hk:k.toNat=j:=by
   rw [seqIndex_of h0 h4] at h1
   exact Option.some.inj h1
  exact PySem.W.ki_setAt ho h0 (by omega) (by rw [List.size_toArray,←hl];exact h4) (by rw [hk];exact ⟨_,I',q⟩)
 ·have hk:(k+(its.toArray.size:Int)).toNat=j:=by
   rw [seqIndex_neg (by omega) h3] at h1
   rw [List.size_toArray,←hl]
   exact Option.some.inj h1
  exact PySem.W.ki_setBack ho (by omega) (by rw [List.size_toArray,←hl];exact h3) (by omega) (by rw [hk];exact ⟨_,I',q⟩)
theorem zkV (i:Int)(n d:Nat):max 0 (min (if i < 0 then i+(n:Int) else i) (n:Int))=((HT.sIx n d (some i):Nat):Int):=by
 simp only [HT.sIx]
 by_cases h:i < 0
 ·simp only [h,if_true] <;> omega
 ·simp only [h,if_false] <;> omega
theorem ze0 (lo hi:Option Int)(n:Nat):(sliceBounds lo hi none n).1=((HT.sIx n 0 lo:Nat):Int)∧(sliceBounds lo hi none n).2.1=((HT.sIx n n hi:Nat):Int)∧(sliceBounds lo hi none n).2.2=1:=by
 refine ⟨?_,?_,rfl⟩
 ·cases lo with
  | none=>simp [sliceBounds,HT.sIx]
  | some i=>(simp only [sliceBounds,Option.getD_none,show (1:Int) > 0 by decide,if_true];exact zkV i n 0)
 ·cases hi with
  | none=>simp [sliceBounds,HT.sIx]
  | some i=>(simp only [sliceBounds,Option.getD_none,show (1:Int) > 0 by decide,if_true];exact zkV i n n)
theorem zew (its:List Value)(lo hi:Option Int):slicePick its.toArray lo hi none=((its.drop (HT.sIx its.length 0 lo)).take (HT.sIx its.length its.length hi - HT.sIx its.length 0 lo)).toArray:=by
 obtain ⟨h1,h2,h3⟩:=ze0 lo hi its.toArray.size
 unfold slicePick
 rw [h1,h2,h3]
 simp only [sliceRange_one,pick_run,List.size_toArray] <;> rfl
def rSlL (K:PySem.W.Frag):V→Option Int→Option Int→Hp→VK→Prop:=fun x lo hi H Q=>∃a xs,x=.ref a∧SqL K H a xs∧∀p,H p=none→Q (.ref p) (upd H p (.lst (cutV xs lo hi)))
theorem zho:SlR X (rSlL X.K):=by
 intro pins s σ H x v vl vu lo hi sl Q I rx hs pl pu h
 obtain ⟨a,xs,rfl,hx,q⟩:=h
 cases rx
 obtain ⟨its,r,ht,hz⟩:=I.list hx
 have hlen:=r.length
 refine ⟨"list",_,slot_list_getitem.lookup,ht.isList.typeIs,?_⟩
 refine wpAny_getItem_list_slice ht.isList hs pl pu .none (by simp) ?_ (by rw [List.size_toArray] <;> omega)
 rw [zew,←hlen]
 refine ⟨.ref s.heap.objs.size,_,I.laid (t':=s.toks) (o:=.lst (cutV xs lo hi)) (fun b ob q=>Heap.get?_push_of_some _ q) (Nat.le_refl _) ?_,rfl,q _ (I.hok.fresh (Nat.le_refl _))⟩
 exact ⟨Nat.le_trans (zdq xs lo hi) hz,_,0,(r.drop (HT.sIx xs.length 0 lo)).take (HT.sIx xs.length xs.length hi - HT.sIx xs.length 0 lo),Heap.get?_push_size _ rfl⟩
def zds:V→Bool
 | .non=>true
 | .bl _=>true
 | .int _=>true
 | .str _=>true
 | _=>false
def eqV:V→V→Bool
 | .non,.non=>true
 | .bl a,.bl b=>a==b
 | .bl a,.int b=>(if a then 1 else 0)==b
 | .int a,.bl b=>a==(if b then 1 else 0)
 | .int a,.int b=>a==b
 | .str a,.str b=>a==b
 | _,_=>false
theorem zlS {A:Around}{s:Shared}{y x:V}{u v:Value}(ry:RelV y u)(rx:RelV x v)(fy:zds y=true)(fx:zds x=true):SeqAt.EqAt A s u v (eqV y x):=by
 cases y with
 | non=>
  cases ry
  cases x with
  | non=>cases rx;exact SeqAt.EqAt.same _
  | bl b=>cases rx;exact SeqAt.EqAt.none_bool b
  | int b=>obtain ⟨t,rfl⟩:=rx;exact SeqAt.EqAt.none_int b t
  | str b=>obtain ⟨t,rfl⟩:=rx;exact SeqAt.EqAt.none_str b t
  | _=>exact absurd (show false=true from fx) Bool.false_ne_true
 | bl a=>
  cases ry
  cases x with
  | non=>cases rx;exact SeqAt.EqAt.bool_none a
  | bl b=>cases rx;exact SeqAt.EqAt.bool_bool a b
  | int b=>obtain ⟨t,rfl⟩:=rx;exact SeqAt.EqAt.bool_int a b t
  | str b=>obtain ⟨t,rfl⟩:=rx;exact SeqAt.EqAt.bool_str a b t
  | _=>exact absurd (show false=true from fx) Bool.false_ne_true
 | int a=>
  obtain ⟨t',rfl⟩:=ry
  cases x with
  | non=>cases rx;exact SeqAt.EqAt.int_none a t'
  | bl b=>cases rx;exact SeqAt.EqAt.int_bool a t' b
  | int b=>obtain ⟨t,rfl⟩:=rx;exact SeqAt.EqAt.int_int a t' b t
  | str b=>obtain ⟨t,rfl⟩:=rx;exact SeqAt.EqAt.int_str a t' b t
  | _=>exact absurd (show false=true from fx) Bool.false_ne_true
 | str a=>
  obtain ⟨t',rfl⟩:=ry
  cases x with
  | non=>cases rx;exact SeqAt.EqAt.str_none a t'
  | bl b=>cases rx;exact SeqAt.EqAt.str_bool a t' b
  | int b=>obtain ⟨t,rfl⟩:=rx;exact SeqAt.EqAt.str_int a t' b t
  | str b=>obtain ⟨t,rfl⟩:=rx;exact SeqAt.EqAt.str_str a t' b t
  | _=>exact absurd (show false=true from fx) Bool.false_ne_true
 | _=>exact absurd (show false=true from fy) Bool.false_ne_true
def eqU (x:V)(u:Value):Bool:=match u with
 | .none=>eqV .non x
 | .bool b=>eqV (.bl b) x
 | .int i _=>eqV (.int i) x
 | .str z _=>eqV (.str z) x
 | _=>false
def inV (x:V)(xs:List V):Bool:=xs.any fun y=>eqV y x
def rIn (K:PySem.W.Frag)(neg:Bool):R2:=fun x y H Q=>∃p xs,y=.ref p∧(SqL K H p xs∨SqT K H p xs)∧zds x=true∧xs.all zds=true∧Q (.bl (if neg then !inV x xs else inV x xs)) H
theorem z8:zaW X (.builtin "len") (fun xs H Q=>∃p ys,xs=[.ref p]∧(SqL X.K H p ys∨SqT X.K H p ys)∧Q (.int ys.length) H):=by
 intro pins s σ H xs us Q I r h
 obtain ⟨p,ys,rfl,hq,q⟩:=h
 obtain ⟨u,rfl,rx⟩:=vals1 r
 cases rx
 have hn:=zee
 rcases hq with hq | hq
 ·obtain ⟨its,r',pl,hz⟩:=I.list hq
  have hlen:=r'.length
  exact Calls.call_len_list pl.isList (by simp only [List.size_toArray] <;> omega) ⟨.int ys.length,H,I.tok _,⟨s.toks+1,by rw [List.size_toArray,hlen]⟩,q⟩
 ·obtain ⟨its,r',pl,hz⟩:=I.tuple hq
  have hlen:=r'.length
  exact len_tuple pl (by simp only [List.size_toArray] <;> omega) ⟨.int ys.length,H,I.tok _,⟨s.toks+1,by rw [List.size_toArray,hlen]⟩,q⟩
theorem zba:zaW X (.builtin "len") (fun xs H Q=>∃z,xs=[.str z]∧z.length≤sizeLine∧Q (.int z.length) H):=by
 intro pins s σ H xs us Q I r h
 obtain ⟨z,rfl,hz,q⟩:=h
 obtain ⟨u,rfl,t,rfl⟩:=vals1 r
 have hn:=zee
 exact len_str (by omega) ⟨.int z.length,H,I.tok _,⟨_,rfl⟩,q⟩
theorem zaW.or {f:Value}{r r':List V→Hp→VK→Prop}(h:zaW X f r)(h':zaW X f r'):zaW X f (fun xs H Q=>r xs H Q∨r' xs H Q):=by
 intro pins s σ H xs us Q I rs q
 rcases q with q | q
 ·exact h pins s σ H xs us Q I rs q
 ·exact h' pins s σ H xs us Q I rs q
def tyV (K:PySem.W.Frag)(T:String)(x:V)(H:Hp):Prop:=match x with
 | .str _=>T= "str"
 | .int _=>T= "int"
 | .ref p=>(T= "list" ∧∃xs,SqL K H p xs)∨(T= "tuple" ∧∃o,K.lookup p=some o∧o.cls=.type "tuple" ∧o.dict=none)∨
   (T= "dict" ∧((∃kvs,H p=some (.dK kvs))∨∃kvs,H p=some (.dT kvs)))∨(T= "set" ∧∃S n,H p=some (.set S n))
 | _=>False
theorem ziB {pins:List (Addr ×Obj)}{σ:St}{H:Hp}{s:Shared}{T:String}{x:V}{v:Value}(I:Inv X pins σ H s)(r:RelV x v)(ty:tyV X.K T x H):
  s.TypeIs v T∧∀a,v=.ref a→∃ob,s.heap.get? a=some ob∧ob.dict=none:=by
 cases x with
 | str z=>
  obtain ⟨t,rfl⟩:=r
  cases (show T= "str" from ty)
  exact ⟨typeIs_str s z t,fun _ e=>nomatch e⟩
 | int i=>
  obtain ⟨t,rfl⟩:=r
  cases (show T= "int" from ty)
  exact ⟨typeIs_int s i t,fun _ e=>nomatch e⟩
 | ref p=>
  cases r
  rcases ty with ⟨rfl,xs,hq⟩ | ⟨rfl,o,hk,hc,hd⟩ | ⟨rfl,hk⟩ | ⟨rfl,S,n,hk⟩
  ·obtain ⟨its,_,pl,_⟩:=I.list hq
   refine ⟨pl.isList.typeIs,fun a e=>?_⟩
   cases e
   obtain ⟨o,n,e,c,hd,_⟩:=pl
   exact ⟨o,e,hd⟩
  ·refine ⟨⟨o,I.kIn p o hk,hc⟩,fun a e=>?_⟩
   cases e
   exact ⟨o,I.kIn _ o hk,hd⟩
  ·have z:∃o,s.heap.get? p=some o∧o.ExactDict:=by
    rcases hk with ⟨kvs,hk⟩ | ⟨kvs,hk⟩
    ·obtain ⟨_,_,_,_,o,_,_,e,ex,_⟩:=I.hok p _ hk
     exact ⟨o,e,ex⟩
    ·obtain ⟨_,_,_,_,o,_,_,e,ex,_⟩:=I.hok p _ hk
     exact ⟨o,e,ex⟩
   obtain ⟨o,e,ex⟩:=z
   refine ⟨⟨o,e,ex.1⟩,fun a e2=>?_⟩
   cases e2
   exact ⟨o,e,ex.2.1⟩
  ·obtain ⟨o,_,_,_,e,ex,_⟩:=I.hok p _ hk
   refine ⟨⟨o,e,ex.1⟩,fun a e2=>?_⟩
   cases e2
   exact ⟨o,e,ex.2.1⟩
 | _=>exact False.elim ty
def tBM0 (K:PySem.W.Frag)(T:String)(r:V→List V→Hp→VK→Prop)(to:TE):TE:=fun σ H Q=>to σ H fun x H1=>tyV K T x H1∧r x [] H1 Q
def tBM (K:PySem.W.Frag)(T:String)(r:V→List V→Hp→VK→Prop)(to:TE)(t:TA):TE:=fun σ H Q=>to σ H fun x H1=>tyV K T x H1∧t σ H1 fun xs H2=>r x xs H2 Q
variable {o e:Expr}{es:List Expr}{to:TE}{t:TA}{name:Str}{apos cpos:Pos}{T id:String}{r:V→List V→Hp→VK→Prop}
theorem zgA (pa:PlainAttrs T)(slot:Slot T name id)(hty:typeOf (.builtin id)=pure (.type "method_descriptor")) (hm:MtR X id r) (ho:PE X o to)
  (hbase:attributeBase o name X.env (eval o X.env)=eval o X.env:=by rfl) (hline:(apos.endLine==cpos.line)=true:=by rfl):PE X (.Call (.Attribute o name apos) [] [] cpos) (tBM0 X.K T r to):=by
 intro pins s σ H Q I h
 refine wpAny_Call_method0_late hbase hline (thn (ho pins s σ H _ I h) fun v s1 ⟨x,H1,I1,r1,ty,q1⟩=>?_)
 obtain ⟨h1,h2⟩:=ziB I1 r1 ty
 exact ⟨T,id,pa,slot,hty,h1,h2,Calls.callWith_builtin rfl (PySem.evalArgs_none (hm pins s1 σ H1 x [] v [] Q I1 r1 .nil q1))⟩
theorem zdp (pa:PlainAttrs T)(slot:Slot T name id)(hty:typeOf (.builtin id)=pure (.type "method_descriptor")) (hm:MtR X id r) (ho:PE X o to) (ha:PA X (e::es) t)
  (hbase:attributeBase o name X.env (eval o X.env)=eval o X.env:=by rfl)
  (hfew:((backTo cpos (starEach (e::es) X.env)).all (fun x=>!x.1) && (backToKw cpos (keywordEach [] X.env)).all (fun x=>x.1.isSome)
   && decide ((e::es).length+([]:List Keyword).length+(if ([]:List Keyword).isEmpty then 0 else 1) < 30))=true:=by rfl)
  (hline:(apos.endLine==cpos.line)=true:=by rfl) (hs:starEach (e::es) X.env=(false,eval e X.env)::starEach es X.env:=by rfl) (hplain:(backTo cpos (starEach es X.env)).any (·.1)=false:=by rfl):
  PE X (.Call (.Attribute o name apos) (e::es) [] cpos) (tBM X.K T r to t):=by
 intro pins s σ H Q I h
 refine wpAny_Call_method_late hbase hfew hline rfl (thn (ho pins s σ H _ I h) fun v s1 ⟨x,H1,I1,r1,ty,q1⟩=>?_)
 obtain ⟨h1,h2⟩:=ziB I1 r1 ty
 refine ⟨T,id,pa,slot,hty,h1,h2,?_⟩
 have hA:=ha cpos pins s1 σ H1 _ I1 q1
 rw [hs] at hA ⊢
 refine Calls.callWith_builtin (by show (false || (backTo cpos (starEach es X.env)).any (·.1))=false;rw [hplain] <;> rfl) (Calls.evalArgs_plain ?_)
 exact thn hA fun us s2 ⟨vs,H2,I2,r2,q2⟩=>hm pins s2 σ H2 x vs v us Q I2 r1 r2 q2
end
end L2
namespace L2
open PySem PySem.Spec PyProof.Rows
def MtM (X:Cx)(id:String)(r:V→List V→Hp→VK→Prop):Prop:=
 ∀(pins:List (Addr ×Obj)) (s:Shared) (σ:St) (H:Hp) (x:V) (xs:List V) (v:Value) (us:List Value) (Q:VK),Inv X pins σ H s→RelV x v→Vals xs us→r x xs H Q→
  wpAny (model X.prog X.w) X.A (call (.builtin id) (v::us)) (EP X pins σ Q) X.xe s
theorem Vals.one {x:V}{us:List Value}(h:Vals [x] us):∃u,us=[u]∧RelV x u:=by
 cases h with
 | cons r t=>cases t;exact ⟨_,rfl,r⟩
theorem Vals.two {x y:V}{us:List Value}(h:Vals [x,y] us):∃u v,us=[u,v]∧RelV x u∧RelV y v:=by
 cases h with
 | cons r t=>obtain ⟨v,rfl,q⟩:=Vals.one t;exact ⟨_,_,rfl,r,q⟩
theorem Vals.zero:∀{us:List Value},Vals [] us→us=[]
 | _,.nil=>rfl
theorem Vals.dropLast {xs:List V}{us:List Value}(h:Vals xs us):Vals xs.dropLast us.dropLast:=by
 induction h with
 | nil=>exact .nil
 | cons r t ih=>
  cases t with
  | nil=>exact .nil
  | cons q t'=>exact .cons r ih
theorem Vals.eraseIdx:∀{xs:List V} {us:List Value} (i:Nat),Vals xs us→Vals (xs.eraseIdx i) (us.eraseIdx i)
 | _,_,_,.nil=>.nil
 | _,_,0,.cons _ t=>t
 | _,_,i+1,.cons r t=>.cons r (Vals.eraseIdx i t)
theorem Vals.reverse {xs:List V}{us:List Value}(h:Vals xs us):Vals xs.reverse us.reverse:=by
 induction h with
 | nil=>exact .nil
 | cons r t ih=>rw [List.reverse_cons,List.reverse_cons];exact Vals.append ih (.cons r .nil)
theorem Vals.rep {xs:List V}{us:List Value}(h:Vals xs us):∀k:Nat,Vals (List.replicate k xs).flatten (List.replicate k us).flatten
 | 0=>.nil
 | k+1=>by
  rw [List.replicate_succ,List.replicate_succ,List.flatten_cons,List.flatten_cons]
  exact Vals.append h (Vals.rep h k)
theorem zf3 {α:Type}(l:List α):l.eraseIdx (l.length - 1)=l.dropLast:=by
 induction l with
 | nil=>rfl
 | cons a r ih=>
  cases r with
  | nil=>rfl
  | cons b r=>
   have e:(a::b::r).length - 1=((b::r).length - 1)+1:=by
    have h1:(a::b::r).length=r.length+2:=rfl
    have h2:(b::r).length=r.length+1:=rfl
    omega
   rw [e,List.eraseIdx_cons_succ,ih]
   all_goals rfl
section
variable {X:Cx}{pins:List (Addr ×Obj)}{σ:St}{H:Hp}{s:Shared}{l b:Addr}{xs ys zs:List V}
theorem Inv.lset {its its':List Value}{n:Nat}{f:Array Value→Array Value}{t':Nat}(I:Inv X pins σ H s)(hH:H l=some (.lst xs))
  (e:s.heap.get? l=some {cls:=.type "list",data:=.seq its.toArray n}) (hf:f its.toArray=its'.toArray) (hv:Vals ys its') (hz:ys.length≤sizeLine):
  Inv X pins σ (upd H l (.lst ys)) {s with heap:=s.heap.update l (Obj.mapSeq f),toks:=t'}:=by
 have q:=PySem.IsL.update e f
 rw [hf] at q
 refine I.write (x:=l) (e:=l) (by rw [hH];exact trivial) (.inl rfl) (fun b' u hb hu=>(Heap.get?_update_other s.heap (Obj.mapSeq f) (Ne.symm hb)).trans hu) ⟨_,q⟩ ?_
 exact ⟨hz,its',_,hv,q⟩
theorem Inv.lnew {its:List Value}{t':Nat}(I:Inv X pins σ H s)(hv:Vals ys its)(hz:ys.length≤sizeLine):
  Inv X pins σ (upd H s.heap.objs.size (.lst ys)) {s with heap:=s.heap.push {cls:=.type "list",data:=.seq its.toArray},toks:=t'}:=
 I.laid (fun _ _ q=>Heap.get?_push_of_some _ q) (Nat.le_refl _) ⟨hz,its,0,hv,Heap.get?_push_size _ rfl⟩
theorem Inv.fresh (I:Inv X pins σ H s):H s.heap.objs.size=none:=I.hok.fresh (Nat.le_refl _)
theorem Inv.lstM (I:Inv X pins σ H s)(hH:H l=some (.lst xs)):xs.length≤sizeLine∧∃(its:List Value) (n:Nat),Vals xs its∧xs.length=its.length∧s.heap.get? l=some {cls:=.type "list",data:=.seq its.toArray n}:=by
 obtain ⟨z,its,n,r,e⟩:=I.hok l _ hH
 exact ⟨z,its,n,r,r.length,e⟩
theorem ziN {n:Nat}(h:n≤sizeLine):Builtin.List.listTooLong n=false:=by
 unfold Builtin.List.listTooLong
 exact decide_eq_false (by omega)
end
section
variable {X:Cx}
def zkq:V→List V→Hp→VK→Prop:=fun x vs H Q=>∃l xs y,x=.ref l∧vs=[y]∧H l=some (.lst xs)∧xs.length < sizeLine∧Q .non (upd H l (.lst (xs++ [y])))
theorem zaP:MtM X "list.append" zkq:=by
 intro pins s σ H x vs v us Q I rx rv h
 obtain ⟨l,xs,y,rfl,rfl,hH,hz,q⟩:=h
 cases rx
 obtain ⟨u,rfl,ru⟩:=rv.one
 obtain ⟨z,its,n,r,hl,e⟩:=I.lstM hH
 refine call_meets F.slot_list_append ⟨_,e,rfl⟩ F.entry_list_append (F.args_list_append_2 _ _) (PySem.list_append l its.toArray n u (by rw [List.size_toArray];omega)) ⟨e,?_⟩
 refine ⟨.non,_,I.lset (its':=its++ [u]) hH e (by simp) (r.append (.cons ru .nil)) ?_,rfl,q⟩
 rw [List.length_append,List.length_singleton]
 omega
def zjR:V→List V→Hp→VK→Prop:=fun x vs H Q=>∃l b xs zs,x=.ref l∧vs=[.ref b]∧H l=some (.lst xs)∧H b=some (.lst zs)∧xs.length+zs.length≤sizeLine∧Q .non (upd H l (.lst (xs++zs)))
theorem zh5:MtM X "list.extend" zjR:=by
 intro pins s σ H x vs v us Q I rx rv h
 obtain ⟨l,b,xs,zs,rfl,rfl,hH,hB,hz,q⟩:=h
 cases rx
 obtain ⟨u,rfl,ru⟩:=rv.one
 cases ru
 obtain ⟨z,its,n,r,hl,e⟩:=I.lstM hH
 obtain ⟨z2,its2,n2,r2,hl2,e2⟩:=I.lstM hB
 have hsz:its.toArray.size+its2.toArray.size≤sizeLine:=by rw [List.size_toArray,List.size_toArray];omega
 have hlong:¬(!its.toArray.isEmpty && Builtin.List.listTooLong (its.toArray.size+its2.toArray.size))=true:=by
  rw [ziN hsz,Bool.and_false]
  exact Bool.false_ne_true
 refine call_meets F.slot_list_extend ⟨_,e,rfl⟩ F.entry_list_extend (F.args_list_extend_2 _ _)
  (AutoSeq1.list_extend_list_list_0 l its.toArray n b its2.toArray n2 hlong (by rw [List.size_toArray];omega) (by omega)) ⟨e,e2,?_⟩
 refine ⟨.non,_,I.lset (its':=its++its2) hH e (by simp) (r.append r2) ?_,rfl,q⟩
 rw [List.length_append]
 omega
def rPop:V→List V→Hp→VK→Prop:=fun x vs H Q=>∃l xs y,x=.ref l∧vs=[]∧H l=some (.lst xs)∧xs[xs.length - 1]? =some y∧Q y (upd H l (.lst xs.dropLast))
theorem zl0:MtM X "list.pop" rPop:=by
 intro pins s σ H x vs v us Q I rx rv h
 obtain ⟨l,xs,y,rfl,rfl,hH,hy,q⟩:=h
 cases rx
 have hus:=rv.zero
 subst hus
 obtain ⟨z,its,n,r,hl,e⟩:=I.lstM hH
 obtain ⟨u,hu,ru⟩:=r.get hy
 have hy':its.toArray[its.toArray.size - 1]? =some u:=by
  show its.toArray[its.length - 1]? =some u
  rw [←Array.getElem?_toList,←hl]
  exact hu
 refine call_meets F.slot_list_pop ⟨_,e,rfl⟩ F.entry_list_pop (F.args_list_pop_1 _) (MeetsSeq.list_pop_last l its.toArray n u hy' (by rw [List.size_toArray];omega)) ⟨e,?_⟩
 refine ⟨y,_,I.lset (its':=its.dropLast) hH e ?_ r.dropLast ?_,ru,q⟩
 ·show its.toArray.eraseIdxIfInBounds (its.toArray.size - 1)=its.dropLast.toArray
  rw [List.size_toArray,List.eraseIdxIfInBounds_toArray,zf3]
 ·rw [List.length_dropLast]
  omega
def znb:V→List V→Hp→VK→Prop:=fun x vs H Q=>∃l xs i k y,x=.ref l∧vs=[.int i]∧H l=some (.lst xs)∧ -(2 ^ 63)≤i∧i < 2 ^ 63∧seqIndex? i xs.length=some k∧xs[k]? =some y∧Q y (upd H l (.lst (xs.eraseIdx k)))
def ziy:V→List V→Hp→VK→Prop:=fun x vs H Q=>∃l xs,x=.ref l∧vs=[]∧H l=some (.lst xs)∧Q .non (upd H l (.lst xs.reverse))
theorem zeb:MtM X "list.reverse" ziy:=by
 intro pins s σ H x vs v us Q I rx rv h
 obtain ⟨l,xs,rfl,rfl,hH,q⟩:=h
 cases rx
 have hus:=rv.zero
 subst hus
 obtain ⟨z,its,n,r,hl,e⟩:=I.lstM hH
 refine call_meets F.slot_list_reverse ⟨_,e,rfl⟩ F.entry_list_reverse (F.args_list_reverse_1 _) (AutoSeq1.list_reverse_list_0 l its.toArray n (by rw [List.size_toArray];omega)) ⟨e,?_⟩
 refine ⟨.non,_,I.lset (its':=its.reverse) hH e (by simp) r.reverse ?_,rfl,q⟩
 rw [List.length_reverse]
 omega
def zm6:V→List V→Hp→VK→Prop:=fun x vs H Q=>∃l xs,x=.ref l∧vs=[]∧H l=some (.lst xs)∧Q .non (upd H l (.lst []))
def rCat:R2:=fun x y H Q=>∃l b xs zs,x=.ref l∧y=.ref b∧H l=some (.lst xs)∧H b=some (.lst zs)∧xs.length+zs.length≤sizeLine∧∀p,H p=none→Q (.ref p) (upd H p (.lst (xs++zs)))
theorem zdY:OpR X (binaryOp .Add) rCat:=by
 intro pins s σ H x y v u Q I rx ry h
 obtain ⟨l,b,xs,zs,rfl,rfl,hH,hB,hz,q⟩:=h
 cases rx
 cases ry
 obtain ⟨z,its,n,r,hl,e⟩:=I.lstM hH
 obtain ⟨z2,its2,n2,r2,hl2,e2⟩:=I.lstM hB
 refine PySem.P.add_list e e2 ?_ (by rw [List.size_toArray,List.size_toArray];omega)
 have ea:its.toArray++its2.toArray=(its++its2).toArray:=by simp
 rw [ea]
 exact ⟨.ref _,_,I.lnew (t':=s.toks) (r.append r2) (by rw [List.length_append];omega),rfl,q _ I.fresh⟩
def rRep:R2:=fun x y H Q=>∃l k xs,x=.ref l∧y=.int k∧H l=some (.lst xs)∧ -(2 ^ 63)≤k∧k < 2 ^ 63∧xs.length * k.toNat≤sizeLine∧
 ∀p,H p=none→Q (.ref p) (upd H p (.lst (List.replicate k.toNat xs).flatten))
end
section
variable {prog:Program}{w:World}{A:Around}{E:Value→Shared→Prop}{s:Shared}
end
section
variable {X:Cx}
end
end L2
namespace Att
open PySem PySem.W PySem.Calls PyProof.Rows
theorem zdE {P:Params}{h:Heap}:∀(ns:List Int) (vs:List Value),WellAll P h vs (ns.map WData.int)→IntsAre vs ns:=by
 intro ns
 induction ns with
 | nil=>
  intro vs w
  rw [List.map_nil] at w
  cases w
  exact .nil
 | cons n ns ih=>
  intro vs w
  rw [List.map_cons] at w
  cases w with
  | cons a b=>
   cases a
   exact .cons _ _ (ih _ b)
theorem zid {l:OpenLaw}{n:Nat}(hn:l.most=some n){P:Params}{h:Heap}{args:List WData}{vals:List Value}
  (hpre:l.row.toRowW.claim.pre args=true) (hwl:WellAll P h vals args):
  ∃a vs ns,vals=[Value.ref a]∧args=[WData.list (ns.map WData.int)]∧h.get? a=some {cls:=.type "list",data:=.seq vs.toArray}∧IntsAre vs ns∧ns.length≤n:=by
 have hsh:WShape.hasAll [] args [.list .int]=true:=(pre_splitW hpre).1
 have hc:l.pre.holds [] {args:=args}=true:=(pre_splitW hpre).2
 obtain ⟨d,r,rfl,h1,h2⟩:=hasAllW_cons hsh
 obtain rfl:=hasAllW_nil h2
 obtain ⟨xs,rfl,h3⟩:=hasW_list h1
 obtain ⟨ns,rfl⟩:=items_int h3
 have hlen:ns.length≤n:=by
  unfold OpenLaw.pre at hc
  have h4:(WTm.not (.lt (.lit (.int (n:Int))) (.len (.arg 0)))).holds [] {args:=[.list (ns.map .int)]}=true:=by
   have h4:=(holds_andW hc).1
   rw [hn] at h4
   exact h4
  have h5:=condW_of h4 (w_not (w_lt w_lit (w_len_list (w_arg rfl))))
  rw [List.length_map] at h5
  refine Nat.le_of_not_lt fun q=>?_
  have q':(n:Int) < ((ns.length:Nat):Int):=by omega
  first
   | (rw [decide_eq_true q'] at h5;exact absurd h5 (by decide))
   | (simp at h5;omega)
 cases hwl with
 | cons w1 w2=>
  cases w2
  cases w1 with
  | list ho hall=>exact ⟨_,_,ns,rfl,rfl,ho,zdE ns _ hall,hlen⟩
theorem zie (l:OpenLaw)(args:List WData):l.row.toRowW.claim.post args (.bool true) args=true:=
 postW_of (r:=l.row.toRowW) (X:=(true==true))
  (show WShape.has [] (.bool true) .bool=true by first | rfl | decide | simp [WShape.has,WShape.arms,WShape.armsAll])
  (show (WTm.eq .res (.lit (.bool true))).value [] {args:=args,res:=some (.bool true),after:=args}=some (.bool (true==true)) from w_eq_bool (w_res rfl) w_lit) rfl
theorem attach_call {l:OpenLaw}{n:Nat}{q:Program}{loose:List Str}{XP:(Str→Option Value)→Heap→Prop}{YP:World→Heap→Prop}{d:DefRec}
  (hn:l.most=some n) (hdf:d.params.defaults=[])
  (call:∀(w:World) (s₀ s₁:Shared) (mg mb:Str→Option Value) (fa:Addr) (o:Obj) (pm cd doc:Value) (a:Addr) (vs:List Value) (ns:List Int),
   Ground q loose [] XP w s₀ mg mb s₁.heap→YP w s₁.heap→
   s₁.heap.get? fa=some o→o.data=.func (docDef d.name d.params d.body d.scope pm cd doc)→s₁.heap.CodeRec cd d.name→mg d.name=some (.ref fa)→
   s₁.heap.get? a=some {cls:=.type "list",data:=.seq vs.toArray}→IntsAre vs ns→ns.length≤n→s₁.gens= #[]→
   codeAny (model l.prog w) callerA (.call (.ref fa) ⟨[.ref a],[]⟩) (fun r s'=>r=.ok (.ret (.bool true))∧OldK s₁.heap s'.heap∧s'.os=s₁.os∧AllBare s'.gens) s₁):
  WalkO q loose XP YP l.row.toRowW d [] (fun f vs=>PySem.call f vs):=by
 intro w s₀ s₁ mg mb G Y fa o pm cd doc dV kV ho hd hcd hD hmg hg args vals as hpre hlay hrd hwl hlo
 obtain rfl:dV=.none:=Dflts.none hD hdf
 obtain rfl:kV=.none:=Dflts.noKw hD
 obtain ⟨a,vs,ns,rfl,rfl,hobj,hints,hlen⟩:=zid hn hpre hwl
 refine enter_call (codeAny_mono (call w s₀ s₁ mg mb fa o pm cd doc a vs ns G Y ho (fd_plain hd) hcd hmg hobj hints hlen hg) fun r s' hq=>?_)
 obtain ⟨rfl,h2,h3,h4⟩:=hq
 exact ⟨.inl ⟨.bool true,.bool true,[],rfl,fun _=>rfl,.bool true,zie l _,fun _=>⟨List.Pairwise.nil,fun _ hm=>(nomatch hm)⟩⟩,h2,h3,h4⟩
section
variable {prog:Program}{w:World}{A:Around}{E:Value→Shared→Prop}{s:Shared}{K:Frag}
def zmT (h:Heap):Heap:={h with objs:= #[]}
def ledger (h:Heap)(L d:Addr):List (Addr ×Obj):=(List.range h.objs.size).filterMap fun a=>if a=L∨a=d then none else (h.get? a).map fun o=>(a,o)
end
end Att
namespace L2
open PySem PySem.Spec PyProof.Rows
theorem zeM:∀{vs:List Value} {ns:List Int},IntsAre vs ns→Vals (ns.map V.int) vs
 | _,_,.nil=>.nil
 | _,_,.cons n t h=>.cons ⟨t,rfl⟩ (zeM h)
def Only (H:Hp):Prop:=∀b,H b=none∨∃o xs,H b=some (.frz o (.lst xs))
theorem zig {P:Program}{w:World}{K:PySem.W.Frag}{mg mb:Str→Option Value}{CX:CXT}{k:Nat}{fa a:Addr}{fd:FuncData}{x:Str}{sp:Sp}{s₁:Shared}{vs:List Value}{ns:List Int}
  (KX:K.In s₁.heap) (hns:s₁.heap.Ns mainGlobals mg) (hb:s₁.heap.Ns builtinsNs mb) (hbb:∀x:Str,x≠ "__name__" →mb x=bootBuiltins x) (hlim:s₁.heap.NoLimit) (hg:s₁.gens= #[])
  (ha:s₁.heap.get? a=some {cls:=.type "list",data:=.seq vs.toArray}) (hi:IntsAre vs ns) (hl:ns.length≤sizeLine) (hr:Room k callerA)
  (F:∀base:Heap,K.In base→base.Ns mainGlobals mg→FnOk P w K mg base CX k fa fd [x] sp) (hbind:∀(s:Shared) (u:Value),BindsTo s fd ⟨[u],[]⟩ [(x,u)])
  (hsp:∀H:Hp,Only H→SqL K H a (ns.map V.int)→sp [.ref a] H (fun v _=>v=.bl true) fun _ _ _=>False)
  (hCX:∀H e s',CX [] H s₁ (fun _ _ _=>False) e s'→False):
  codeAny (model P w) callerA (.call (.ref fa) ⟨[.ref a],[]⟩) (fun r s'=>r=.ok (.ret (.bool true))∧OldK s₁.heap s'.heap∧s'.os=s₁.os∧AllBare s'.gens) s₁:=by
 have rv:=zeM hi
 have lenV:=hi.length
 have core:∀H:Hp,Only H→SqL K H a (ns.map V.int)→HOk P w H s₁.heap→(∀b,H b≠none→b=a)→(H a≠none→K.lookup a=none)→
   codeAny (model P w) callerA (.call (.ref fa) ⟨[.ref a],[]⟩) (fun r s'=>r=.ok (.ret (.bool true))∧OldK s₁.heap s'.heap∧s'.os=s₁.os∧AllBare s'.gens) s₁:=by
  intro H hO hS hok hA hK
  have base_of:∀{b:Addr} {o:Obj},s₁.heap.get? b=some o→H b=none→(hidT s₁.heap H).get? b=some o:=fun e n=>ziG e n
  have noA:∀{b:Addr} {o:Obj} {es:Array DictEntry} {ep:Nat},s₁.heap.get? b=some o→o.data=.dict es ep→H b=none:=fun {b o es ep} e d=>by
   cases q:H b with
   | none=>rfl
   | some u=>
    have e':b=a:=hA b (by rw [q];simp)
    subst e'
    rw [ha] at e;cases e
    have d':Data.seq vs.toArray _=Data.dict es ep:=d
    cases d'
  have nsK:∀{b:Addr} {m:Str→Option Value},s₁.heap.Ns b m→(hidT s₁.heap H).Ns b m:=fun {b m} ⟨o,es,ep,e,d,r⟩=>⟨o,es,ep,base_of e (noA e d),d,r⟩
  have hKb:K.In (hidT s₁.heap H):=fun b o e=>base_of (KX b o e) (by
   cases q:H b with
   | none=>rfl
   | some u=>
    have e':b=a:=hA b (by rw [q];simp)
    subst e'
    rw [hK (by rw [q];simp)] at e;cases e)
  have hM:Mod K mg (hidT s₁.heap H):=⟨hKb,nsK hns,⟨mb,nsK hb,hbb⟩,let ⟨mc,h1,h2⟩:=hlim;⟨mc,nsK h1,h2⟩⟩
  have e0:Env0 P w K mg (hidT s₁.heap H) callerA [] s₁ H:=⟨rfl,hM,fun b o e=>zkp e,Nat.le_of_eq (zhu _ _),trivial,fun b hb=>absurd (show b∈([]:List Addr) from hb) (by simp),hok,.of_eq hg⟩
  refine codeAny_mono ((F _ hKb (nsK hns)).run callerA [] s₁ H ⟨[.ref a],[]⟩ [.ref a] [.ref a] _ _ hr e0 (hbind s₁ (.ref a)) (.cons rfl .nil) (hsp H hO hS)) fun r s' h=>?_
  cases r with
  | error e=>exact (hCX H e s' h).elim
  | ok fl=>
   cases fl with
   | next=>exact False.elim h
   | brk=>exact False.elim h
   | cont=>exact False.elim h
   | ret u=>
    obtain ⟨v,H',os,bare,un,hok',r',q⟩:=h
    have q':v=.bl true:=q
    subst q'
    obtain rfl:u=Value.bool true:=r'
    refine ⟨rfl,OldK.of_keep fun b o e=>?_,os,bare⟩
    cases q:H b with
    | none=>exact un.keep b o e q (by intro z;exact absurd (show b∈([]:List Addr) from z) (by simp)) (by simp)
    | some u=>
     rcases hO b with z | ⟨ob,xs,z⟩
     ·rw [q] at z;cases z
     ·have z2:=un.frzs b ob _ z
      obtain ⟨e1,_⟩:=hok b _ z
      obtain ⟨e2,_⟩:=hok' b _ z2
      rw [e] at e1;cases e1
      exact e2
 cases hk:K.lookup a with
 | some o=>
  have e:=KX a o hk
  rw [ha] at e
  cases e
  refine core (fun _=>none) (fun _=>.inl rfl) (.inr ⟨_,vs.toArray,_,hk,rfl,rfl,rfl,by rw [List.size_toArray,lenV];exact hl,by simpa using rv⟩) (fun b u z=>by have z':(none:Option HO)=some u:=z;cases z') (fun b z=>absurd rfl z) fun z=>absurd rfl z
 | none=>
  refine core (fun b=>if b=a then some (.frz {cls:=.type "list",data:=.seq vs.toArray} (.lst (ns.map V.int))) else none) (fun b=>?_) (.inl (.inr ⟨{cls:=.type "list",data:=.seq vs.toArray},if_pos rfl⟩)) (fun b u z=>?_) (fun b z=>?_) fun _=>hk
  ·by_cases hb:b=a
   ·exact .inr ⟨_,_,if_pos hb⟩
   ·exact .inl (if_neg hb)
  ·by_cases hb:b=a
   ·have z':=(if_pos hb).symm.trans z
    cases z'
    subst hb
    exact ⟨ha,by rw [List.length_map];exact hl,vs,_,rv,ha⟩
   ·have z':=(if_neg hb).symm.trans z
    cases z'
  ·by_cases hb:b=a
   ·exact hb
   ·exact absurd (if_neg hb) z
end L2
namespace L2
open PySem PySem.Spec PyProof.Rows
abbrev KOf {K:PySem.W.Frag}{h:Heap}(_:K.In h):PySem.W.Frag:=K
theorem zjT {l:PySem.W.OpenLaw}{n k:Nat}{q:Program}{loose:List Str}{XP:(Str→Option Value)→Heap→Prop}{YP:World→Heap→Prop}{d:DefRec}{K:Params→PySem.W.Frag}{CX:World→CXT}{sp:World→Sp}{x:Str}
  (hn:l.most=some n) (hn2:n≤sizeLine) (hdf:d.params.defaults=[]) (hr:Room k callerA)
  (hY:∀(w:World) (h:Heap),YP w h→(K w.params).In h)
  (F:∀(w:World) (mg:Str→Option Value) (fa:Addr) (h:Heap),(K w.params).In h→h.Ns mainGlobals mg→mg d.name=some (.ref fa)→
   ∃fd:FuncData,(∀(s:Shared) (u:Value),BindsTo s fd ⟨[u],[]⟩ [(x,u)])∧
    ∀base:Heap,(K w.params).In base→base.Ns mainGlobals mg→FnOk l.prog w (K w.params) mg base (CX w) k fa fd [x] (sp w))
  (hsp:∀(w:World) (H:Hp) (a:Addr) (ns:List Int),ns.length≤n→Only H→SqL (K w.params) H a (ns.map V.int)→sp w [.ref a] H (fun v _=>v=.bl true) fun _ _ _=>False)
  (hCX:∀(w:World) (H:Hp) (s:Shared) (e:Value) (s':Shared),CX w [] H s (fun _ _ _=>False) e s'→False):
  PySem.W.WalkO q loose XP YP l.row.toRowW d [] (fun f vs=>PySem.call f vs):=by
 refine Att.attach_call hn hdf fun w s₀ s₁ mg mb fa o pm cd doc a vs ns G Y ho hd hcd hmg hobj hints hlen hg=>?_
 have KX:=hY w _ Y
 obtain ⟨fd,hb,hF⟩:=F w mg fa _ KX G.T.g hmg
 exact zig KX G.T.g G.T.b G.T.builtins G.T.nolimit hg hobj hints (Nat.le_trans hlen hn2) hr hF hb (fun H hO hS=>hsp w H a ns hlen hO hS) fun H e s'=>hCX w H s₁ e s'
end L2
namespace L2
open PySem PySem.Spec PyProof.Rows
abbrev CX0:CXT:=fun _ _ _ _ _ _=>False
abbrev E0:XK:=fun _ _ _=>False
theorem zjg {X:Cx}:zby CX0 X E0:=fun _ _ _ _ _ _ _ h=>h.elim
structure Fun (K:PySem.W.Frag)(x qual:Str)(st:Stmt)(f:Addr)(fd:FuncData):Prop where
 ex:∃(oc:Value) (od:Option Addr) (kV doc pm:Value) (an:Option Addr) (cdv ct:Value) (osl:Array (Option Value)),
  fd=PySem.W.fnOf x qual (zag st) (zN st) (zg st) .none kV doc pm an cdv ct∧K.lookup f=some ⟨oc,od,.func fd,osl⟩∧PySem.W.codeIn K cdv qual=true
 kp:PySem.W.keepIn K (.ref f)=true
section
variable {P:Program}{w:World}{K:PySem.W.Frag}{mg:Str→Option Value}{base:Heap}
theorem Fun.ok {x qual:Str}{st:Stmt}{f:Addr}{fd:FuncData}{N ps:List Str}{k:Nat}{sp:Sp}(F:Fun K x qual st f fd)(S:zm N ps (zg st))(len:∀vs H Q E,sp vs H Q E→vs.length=ps.length)
  (hbody:∀(cdv:Value) (A:Around) (outer:List Env) (s:Shared) (H:Hp) (vs:List V) (Q:VK) (E:XK),Room k (A.deeper (envOfC qual (zg st) s.heap.objs.size f cdv))→sp vs H Q E→
   ∃t,PSs (cxOf CX0 P w K mg base N qual (zg st) f cdv A outer s H E).nox (zN st) t∧t {nx:=fun _ H'=>Q .non H',rt:=Q} (start N vs) H):FnOk P w K mg base CX0 (k+1) f fd ps sp:=by
 obtain ⟨oc,od,kV,doc,pm,an,cdv,ct,osl,rfl,lk,hcd⟩:=F.ex
 refine zkY lk hcd S len fun A outer s H vs Q E hr hsp=>?_
 obtain ⟨t,h,q⟩:=hbody cdv A outer s H vs Q E hr hsp
 exact ⟨t,h.nox,q⟩
theorem Fun.binds {x qual:Str}{st:Stmt}{f:Addr}{fd:FuncData}{ps:List Str}(F:Fun K x qual st f fd)
  (h:∀(kV doc pm:Value) (an:Option Addr) (cdv ct:Value) (us:List Value),us.length=ps.length→bindArgs (PySem.W.fnOf x qual (zag st) (zN st) (zg st) .none kV doc pm an cdv ct) ⟨us,[]⟩=pure (ps.zip us)):Binds K fd ps []:=by
 obtain ⟨oc,od,kV,doc,pm,an,cdv,ct,osl,rfl,lk,hcd⟩:=F.ex
 exact .all (h kV doc pm an cdv ct)
theorem zbk {x qual:Str}{st:Stmt}{f:Addr}{oc:Value}{od an:Option Addr}{osl:Array (Option Value)}{kV doc pm cdv ct:Value}(l:K.lookup f=some ⟨oc,od,.func (PySem.W.fnOf x qual (zag st) (zN st) (zg st) .none kV doc pm an cdv ct),osl⟩)
  (c:PySem.W.codeIn K cdv qual=true) (k:PySem.W.keepIn K (.ref f)=true):Fun K x qual st f (PySem.W.fnOf x qual (zag st) (zN st) (zg st) .none kV doc pm an cdv ct):=⟨⟨oc,od,kV,doc,pm,an,cdv,ct,osl,rfl,l,c⟩,k⟩
end
theorem zeG {A:Around}{k:Nat}(hr:Room k A):A.units+1 < cLine:=Nat.lt_of_le_of_lt (Nat.add_le_add_left (by decide:1≤64) _) hr.units
theorem zhz {n:Nat}(h:n≤1000):n < sizeLine:=Nat.lt_of_le_of_lt h (by decide)
section
variable {X:Cx}
theorem pv (i:Nat){x:Str}{pos:Pos}(hN:X.N[i]? =some x:=by rfl)(hv:Vis X.env.scope x:=by first | exact Or.inl rfl | exact Or.inr (Or.inl rfl) | exact Or.inr (Or.inr rfl))(hd:(x==("__debug__" :Str))=false:=by decide)
  (hcd:(x==("__classdict__" :Str))=false:=by decide):PE X (.Name x pos) (tVar i):=zlP hN hv hd hcd
end
def Same (H H':Hp):Prop:=∀b o,H b=some o→H' b=some o
theorem Same.refl (H:Hp):Same H H:=fun _ _ h=>h
theorem Same.trans {H H1 H2:Hp}(a:Same H H1)(b:Same H1 H2):Same H H2:=fun c o h=>b c o (a c o h)
theorem Same.free {H H':Hp}(e:Same H H'){l:Addr}(h:H' l=Option.none):H l=Option.none:=by
 cases q:H l with
 | none=>rfl
 | some o=>
  rw [e l o q] at h
  cases h
theorem Same.seq {K:PySem.W.Frag}{H H':Hp}{a:Addr}{xs:List V}(e:Same H H')(h:SqL K H a xs):SqL K H' a xs:=by
 rcases h with (h | ⟨o,h⟩) | h
 ·exact .inl (.inl (e _ _ h))
 ·exact .inl (.inr ⟨o,e _ _ h⟩)
 ·exact .inr h
end L2
namespace L2
open PySem PySem.Spec PyProof.Rows
section
variable {κ:Type} [DecidableEq κ]
def valV (kvs:List (κ ×V))(k:κ):Option V:=(kvs.find? fun kv=>decide (kv.1=k)).map (·.2)
def putK (kvs:List (κ ×V))(k:κ)(v:V):List (κ ×V):=
 if (kvs.any fun kv=>decide (kv.1=k))=true then kvs.map (fun kv=>if kv.1=k then (kv.1,v) else kv) else kvs++ [(k,v)]
def zfR (kvs:List (κ ×V))(k:κ):List (κ ×V):=kvs.filter fun kv=>decide (kv.1≠k)
theorem zcW {p:κ ×V}{r:List (κ ×V)}{k:κ}(e:p.1=k):valV (p::r) k=some p.2:=by simp [valV,List.find?_cons,e]
theorem zeg {p:κ ×V}{r:List (κ ×V)}{k:κ}(e:¬p.1=k):valV (p::r) k=valV r k:=by simp [valV,List.find?_cons,e]
theorem zec (k:κ):∀kvs:List (κ ×V),(kvs.any fun kv=>decide (kv.1=k))=(valV kvs k).isSome
 | []=>rfl
 | p::r=>by
  rw [List.any_cons]
  by_cases e:p.1=k
  ·simp only [zcW e,decide_eq_true e,Bool.true_or,Option.isSome_some]
  ·rw [zeg e,decide_eq_false e,Bool.false_or];exact zec k r
theorem zdw (kvs:List (κ ×V))(k:κ)(v:V):(putK kvs k v).length≤kvs.length+1:=by
 unfold putK
 split
 ·rw [List.length_map];omega
 ·rw [List.length_append,List.length_cons,List.length_nil];omega
theorem ziR {kvs:List (κ ×V)}{k:κ}(v:V)(h:valV kvs k=none):putK kvs k v=kvs++ [(k,v)]:=by
 unfold putK
 rw [zec,h]
 exact if_neg (by decide)
theorem RelO.isSome_eq {o:Option V}{u:Option Value}(r:RelO o u):o.isSome=u.isSome:=by
 cases o with
 | none=>cases u with
  | none=>rfl
  | some _=>exact (show False from r).elim
 | some _=>cases u with
  | none=>exact (show False from r).elim
  | some _=>rfl
theorem RelO.getD {o:Option V}{u:Option Value}{d:V}{d':Value}(r:RelO o u)(rd:RelV d d'):RelV (o.getD d) (u.getD d'):=by
 cases o with
 | none=>cases u with
  | none=>exact rd
  | some _=>exact (show False from r).elim
 | some _=>cases u with
  | none=>exact (show False from r).elim
  | some _=>exact r
theorem KV.val {kvs:List (κ ×V)}{vs:List (κ ×Value)}(r:KV kvs vs)(k:κ):RelO (valV kvs k) (valueAt vs k):=by
 unfold KV at r
 induction r with
 | nil=>exact True.intro
 | @cons p q ps qs h t ih=>
  obtain ⟨h1,h2⟩:=h
  by_cases e:p.1=k
  ·have e':q.1=k:=h1.symm.trans e
   have b:valueAt (q::qs) k=some q.2:=by simp [valueAt,List.find?_cons,e']
   rw [zcW e,b];exact h2
  ·have e':¬q.1=k:=fun z=>e (h1.trans z)
   have b:valueAt (q::qs) k=valueAt qs k:=by simp [valueAt,List.find?_cons,e']
   rw [zeg e,b];exact ih
theorem KV.any {kvs:List (κ ×V)}{vs:List (κ ×Value)}(r:KV kvs vs)(k:κ):(kvs.any fun kv=>decide (kv.1=k))=vs.any fun kv=>decide (kv.1=k):=by
 unfold KV at r
 induction r with
 | nil=>rfl
 | cons h t ih=>rw [List.any_cons,List.any_cons,ih,h.1]
theorem KV.repl {kvs:List (κ ×V)}{vs:List (κ ×Value)}(r:KV kvs vs)(k:κ){y:V}{u:Value}(ry:RelV y u):
  KV (kvs.map fun kv=>if kv.1=k then (kv.1,y) else kv) (vs.map fun kv=>if kv.1=k then (kv.1,u) else kv):=by
 unfold KV at r ⊢
 induction r with
 | nil=>exact .nil
 | @cons p q ps qs h t ih=>
  rw [List.map_cons,List.map_cons]
  refine .cons ?_ ih
  obtain ⟨h1,h2⟩:=h
  by_cases e:p.1=k
  ·rw [if_pos e,if_pos (h1.symm.trans e)];exact ⟨h1,ry⟩
  ·rw [if_neg e,if_neg (fun z=>e (h1.trans z))];exact ⟨h1,h2⟩
theorem KV.put {kvs:List (κ ×V)}{vs:List (κ ×Value)}(r:KV kvs vs)(k:κ){y:V}{u:Value}(ry:RelV y u):KV (putK kvs k y) (stored vs k u):=by
 unfold putK stored
 rw [r.any k]
 by_cases e:(vs.any fun kv=>decide (kv.1=k))=true
 ·rw [if_pos e,if_pos e];exact r.repl k ry
 ·rw [if_neg e,if_neg e];exact Paired.snoc r ⟨rfl,ry⟩
theorem KV.drop {kvs:List (κ ×V)}{vs:List (κ ×Value)}(r:KV kvs vs)(k:κ):KV (zfR kvs k) (without vs k):=by
 unfold KV at r ⊢
 unfold zfR without
 induction r with
 | nil=>exact .nil
 | @cons p q ps qs h t ih=>
  obtain ⟨h1,h2⟩:=h
  rw [List.filter_cons,List.filter_cons]
  by_cases e:p.1=k
  ·have a:¬decide (p.1≠k)=true:=by simp [e]
   have b:¬decide (q.1≠k)=true:=by simp [h1.symm.trans e]
   rw [if_neg a,if_neg b];exact ih
  ·have e':¬q.1=k:=fun z=>e (h1.trans z)
   have a:decide (p.1≠k)=true:=by simp [e]
   have b:decide (q.1≠k)=true:=by simp [e']
   rw [if_pos a,if_pos b];exact .cons ⟨h1,h2⟩ ih
theorem KV.keys {kvs:List (κ ×V)}{vs:List (κ ×Value)}(r:KV kvs vs):kvs.map (·.1)=vs.map (·.1):=by
 unfold KV at r
 induction r with
 | nil=>rfl
 | cons h t ih=>rw [List.map_cons,List.map_cons,ih,h.1]
theorem KV.length {kvs:List (κ ×V)}{vs:List (κ ×Value)}(r:KV kvs vs):kvs.length=vs.length:=Paired.length r
end
theorem zfH {P:Program}{w:World}{k:Key}{u:Value}(r:RelV (kV k) u):(zay P w).is k u=true:=by
 cases k with
 | inl i=>obtain ⟨t,e⟩:=(show∃t,u=Value.int i t from r);subst e;exact zfG P w i t
 | inr x=>obtain ⟨t,e⟩:=(show∃t,u=Value.str x t from r);subst e;exact zfy P w x t
theorem zeN {P:Program}{w:World}:∀{ks:List Key} {us:List Value},Vals (ks.map kV) us→ItemsAre (zay P w) ks us
 | [],_,r=>by rw [List.map_nil] at r;cases r;exact .nil
 | k::ks,_,r=>by
  rw [List.map_cons] at r
  cases r with
  | cons h t=>exact .cons (zfH h) (zeN t)
abbrev KT (H:Hp):List (List Key ×V)→List (List Key ×Addr ×Value)→Prop:=Paired fun p q=>p.1=q.1∧H q.2.1=some (.tup (p.1.map kV))∧RelV p.2 q.2.2
theorem KT.val {H:Hp}{kvs:List (List Key ×V)}{xs:List (List Key ×Addr ×Value)}(r:KT H kvs xs)(k:List Key):RelO (valV kvs k) ((atKey xs k).map (·.2)):=by
 induction r with
 | nil=>exact True.intro
 | @cons p q ps qs h t ih=>
  obtain ⟨h1,_,h2⟩:=h
  by_cases e:p.1=k
  ·have e':q.1=k:=h1.symm.trans e
   have b:atKey (q::qs) k=some q.2:=by simp [atKey,List.find?_cons,e']
   rw [zcW e,b];exact h2
  ·have e':¬q.1=k:=fun z=>e (h1.trans z)
   have b:atKey (q::qs) k=atKey qs k:=by simp [atKey,List.find?_cons,e']
   rw [zeg e,b];exact ih
theorem KT.repl {H:Hp}{kvs:List (List Key ×V)}{xs:List (List Key ×Addr ×Value)}(r:KT H kvs xs)(k:List Key){y:V}{u:Value}(ry:RelV y u):
  KT H (kvs.map fun kv=>if kv.1=k then (kv.1,y) else kv) (xs.map (putAt k u)):=by
 induction r with
 | nil=>exact .nil
 | @cons p q ps qs h t ih=>
  rw [List.map_cons,List.map_cons]
  refine .cons ?_ ih
  obtain ⟨h1,h2,h3⟩:=h
  unfold putAt
  by_cases e:p.1=k
  ·rw [if_pos e,if_pos (h1.symm.trans e)];exact ⟨h1,h2,ry⟩
  ·rw [if_neg e,if_neg (fun z=>e (h1.trans z))];exact ⟨h1,h2,h3⟩
theorem KT.put {H:Hp}{kvs:List (List Key ×V)}{xs:List (List Key ×Addr ×Value)}(r:KT H kvs xs)(k:List Key){b:Addr}{y:V}{u:Value}(hb:H b=some (.tup (k.map kV)))(ry:RelV y u):
  KT H (putK kvs k y) (storedH xs k b u):=by
 have e:(kvs.any fun kv=>decide (kv.1=k))=(atKey xs k).isSome:=by
  rw [zec,(r.val k).isSome_eq,Option.isSome_map]
 unfold putK storedH
 rw [e]
 by_cases q:(atKey xs k).isSome=true
 ·rw [if_pos q,if_pos q];exact r.repl k ry
 ·rw [if_neg q,if_neg q];exact Paired.snoc r ⟨rfl,hb,ry⟩
theorem KT.keeps {H H':Hp}{kvs:List (List Key ×V)}{xs:List (List Key ×Addr ×Value)}(r:KT H kvs xs)(ht:∀b ys,H b=some (.tup ys)→H' b=some (.tup ys)):KT H' kvs xs:=
 Paired.mapP r fun _ _ z=>⟨z.1,ht _ _ z.2.1,z.2.2⟩
section
variable {P:Program}{w:World}{H:Hp}{h:Heap}{a:Addr}
theorem zkP {u:HO}(ok:HOk P w H h)(e:Rd H a u):zY P w H h a u:=e.ok ok
theorem zfC {kvs:List (Key ×V)}(ok:HOk P w H h)(e:Rd H a (.dK kvs)):kvs.length≤sizeLine∧(a==sysModules)=false∧∃vs,KV kvs vs∧h.DictOf (zay P w) a vs:=
 show zY P w H h a (.dK kvs) from zkP ok e
theorem zmA {kvs:List (Key ×V)}(ok:HOk P w H h)(e:H a=some (.dK kvs)):kvs.length≤sizeLine∧(a==sysModules)=false∧∃vs,KV kvs vs∧h.DictOf (zay P w) a vs:=zfC ok (.inl e)
theorem zdT {ks:List Key}(ok:HOk P w H h)(e:H a=some (.tup (ks.map kV))):(tupleKind (zay P w)).is h ks a:=by
 obtain ⟨_,its,r,o,h1,h2,n,h3⟩:=(show zY P w H h a (.tup (ks.map kV)) from ok a _ e)
 exact ⟨o,its.toArray,n,h1,h2,h3,by simpa using zeN r⟩
theorem zfV {kvs:List (List Key ×V)}(ok:HOk P w H h)(e:Rd H a (.dT kvs)):kvs.length≤sizeLine∧(a==sysModules)=false∧
  ∃xs,KT H kvs xs∧h.DictOfH (tupleKind (zay P w)) a xs:=by
 obtain ⟨z,y,xs,r,o,es,ep,h1,h2,h3,h4,h5⟩:=(show zY P w H h a (.dT kvs) from zkP ok e)
 refine ⟨z,y,xs,r,o,es,ep,h1,h2,h3,h4,fun x hx=>?_,h5⟩
 have all:∀{l:List (List Key ×V)} {m:List (List Key ×Addr ×Value)},KT H l m→∀x∈m,(tupleKind (zay P w)).is h x.1 x.2.1:=by
  intro l m q
  induction q with
  | nil=>intro x hx;exact nomatch hx
  | @cons p q ps qs hq t ih=>
   intro x hx
   rcases List.mem_cons.mp hx with e | hx
   ·subst e
    exact zdT ok (by rw [←hq.1];exact hq.2.1)
   ·exact ih x hx
 exact all r x hx
theorem zmq {kvs:List (List Key ×V)}(ok:HOk P w H h)(e:H a=some (.dT kvs)):kvs.length≤sizeLine∧(a==sysModules)=false∧
  ∃xs,KT H kvs xs∧h.DictOfH (tupleKind (zay P w)) a xs:=zfV ok (.inl e)
end
def DGet (H:Hp)(a:Addr)(y:V)(r:Option V):Prop:=
 (∃kvs k,Rd H a (.dK kvs)∧y=kV k∧r=valV kvs k)∨∃kvs k b,Rd H a (.dT kvs)∧y=.ref b∧H b=some (.tup (k.map kV))∧r=valV kvs k
def DPut (H:Hp)(a:Addr)(y v:V)(H':Hp):Prop:=
 (∃kvs k,H a=some (.dK kvs)∧y=kV k∧kvs.length < sizeLine∧H'=upd H a (.dK (putK kvs k v)))∨
 ∃kvs k b,H a=some (.dT kvs)∧y=.ref b∧H b=some (.tup (k.map kV))∧kvs.length < sizeLine∧H'=upd H a (.dT (putK kvs k v))
theorem DGet.k {H:Hp}{a:Addr}{kvs:List (Key ×V)}{k:Key}(e:H a=some (.dK kvs)):DGet H a (kV k) (valV kvs k):=.inl ⟨kvs,k,.inl e,rfl,rfl⟩
theorem DGet.t {H:Hp}{a b:Addr}{kvs:List (List Key ×V)}{k:List Key}(e:H a=some (.dT kvs))(eb:H b=some (.tup (k.map kV))):DGet H a (.ref b) (valV kvs k):=.inr ⟨kvs,k,b,.inl e,rfl,eb,rfl⟩
theorem DPut.k {H:Hp}{a:Addr}{kvs:List (Key ×V)}{k:Key}{v:V}(e:H a=some (.dK kvs))(hl:kvs.length < sizeLine):DPut H a (kV k) v (upd H a (.dK (putK kvs k v))):=.inl ⟨kvs,k,e,rfl,hl,rfl⟩
theorem DPut.t {H:Hp}{a b:Addr}{kvs:List (List Key ×V)}{k:List Key}{v:V}(e:H a=some (.dT kvs))(eb:H b=some (.tup (k.map kV)))(hl:kvs.length < sizeLine):
  DPut H a (.ref b) v (upd H a (.dT (putK kvs k v))):=.inr ⟨kvs,k,b,e,rfl,eb,hl,rfl⟩
section
variable {X:Cx}{pins:List (Addr ×Obj)}{σ:St}{H:Hp}{s:Shared}{a:Addr}{y v:V}{u r:Value}{o:Option V}{A:Around}{E:Value→Shared→Prop}
theorem Inv.big (I:Inv X pins σ H s):sysModules < s.heap.objs.size:=by
 have h:mainGlobals < s.heap.objs.size:=(I.mod.glob.keeps I.bk).lt
 exact Nat.lt_trans (by decide) h
theorem zh1 {Q:Value→Shared→Prop}(hu:A.units+1 < cLine)(I:Inv X pins σ H s)(g:DGet H a y (some v))(ry:RelV y u)(h:∀w' s',Inv X pins σ H s'→RelV v w'→Q w' s'):
  wpAny (model X.prog X.w) A (getItem (.ref a) u) Q E s:=by
 rcases g with ⟨kvs,k,e,ey,l⟩ | ⟨kvs,k,b,e,ey,eb,l⟩
 ·subst ey
  obtain ⟨z,hd,vs,rel,dd⟩:=zfC I.hok e
  obtain ⟨w',hw,rw'⟩:=RelO.some_of (v:=v) (o:=valueAt vs k) (by rw [l];exact rel.val k)
  exact wpAny_getItem_of (zfH ry) dd.mapOf hw (h w' _ (I.tok _) rw')
 ·subst ey
  cases (show u=Value.ref b from ry)
  obtain ⟨z,hd,xs,rel,dd⟩:=zfV I.hok e
  obtain ⟨w',hw,rw'⟩:=RelO.some_of (v:=v) (o:=(atKey xs k).map (·.2)) (by rw [l];exact rel.val k)
  obtain ⟨p,hp,hp2⟩:=Option.map_eq_some_iff.mp hw
  refine wpAny_getItem_heap (tupleKind_room_in1 hu) (zdT I.hok eb) dd hp ?_
  rw [hp2]
  exact h w' _ (I.tok _) rw'
theorem d_in {Q:Value→Shared→Prop}(hu:A.units+1 < cLine)(I:Inv X pins σ H s)(g:DGet H a y o)(ry:RelV y u)(h:∀s',Inv X pins σ H s'→Q (.bool o.isSome) s'):
  wpAny (model X.prog X.w) A (compareOp .In u (.ref a)) Q E s:=by
 rcases g with ⟨kvs,k,e,ey,l⟩ | ⟨kvs,k,b,e,ey,eb,l⟩
 ·subst ey
  obtain ⟨z,hd,vs,rel,dd⟩:=zfC I.hok e
  refine wpAny_in_of (zfH ry) hd dd.mapOf ?_
  rw [←(rel.val k).isSome_eq,←l]
  exact h _ (I.tok _)
 ·subst ey
  cases (show u=Value.ref b from ry)
  obtain ⟨z,hd,xs,rel,dd⟩:=zfV I.hok e
  refine wpAny_in_heap (tupleKind_room_in1 hu) (zdT I.hok eb) hd dd ?_
  have q:=(rel.val k).isSome_eq
  rw [Option.isSome_map] at q
  rw [←q,←l]
  exact h _ (I.tok _)
theorem zj5 {Q:Value→Shared→Prop}(hu:A.units+1 < cLine)(I:Inv X pins σ H s)(g:DGet H a y o)(ry:RelV y u)(h:∀s',Inv X pins σ H s'→Q (.bool (!o.isSome)) s'):
  wpAny (model X.prog X.w) A (compareOp .NotIn u (.ref a)) Q E s:=by
 rcases g with ⟨kvs,k,e,ey,l⟩ | ⟨kvs,k,b,e,ey,eb,l⟩
 ·subst ey
  obtain ⟨z,hd,vs,rel,dd⟩:=zfC I.hok e
  refine wpAny_notIn_of (zfH ry) hd dd.mapOf ?_
  rw [←(rel.val k).isSome_eq,←l]
  exact h _ (I.tok _)
 ·subst ey
  cases (show u=Value.ref b from ry)
  obtain ⟨z,hd,xs,rel,dd⟩:=zfV I.hok e
  refine wpAny_notIn_heap (tupleKind_room_in1 hu) (zdT I.hok eb) hd dd ?_
  have q:=(rel.val k).isSome_eq
  rw [Option.isSome_map] at q
  rw [←q,←l]
  exact h _ (I.tok _)
theorem zhh {h':Heap}{t':Nat}{ob:HO}(I:Inv X pins σ H s)(mu:Mut (H a))(hs:Heap.SameBut a s.heap h')(he:∃q,h'.get? a=some q)(new:zY X.prog X.w (upd H a ob) h' a ob):
  Inv X pins σ (upd H a ob) {s with heap:=h',toks:=t'}:=
 I.write (x:=a) (e:=a) mu (.inl rfl) (fun b q hb z=>(hs.2 b hb).trans z) he new
theorem zlm {P:Program}{w:World}{H':Hp}{h':Heap}{kvs:List (Key ×V)}{vs:List (Key ×Value)}(z:kvs.length≤sizeLine)(hd:(a==sysModules)=false)(rel:KV kvs vs)(dd:h'.DictOf (zay P w) a vs):
  zY P w H' h' a (.dK kvs):=⟨z,hd,vs,rel,dd⟩
theorem zib {H':Hp}{Q:Unit→Shared→Prop}(hu:A.units+1 < cLine)(I:Inv X pins σ H s)(g:DPut H a y v H')(ry:RelV y u)(rv:RelV v r)(h:∀s',Inv X pins σ H' s'→Q () s'):
  wpAny (model X.prog X.w) A (setItem (.ref a) u r) Q E s:=by
 rcases g with ⟨kvs,k,e,ey,l,eH⟩ | ⟨kvs,k,b,e,ey,eb,l,eH⟩
 ·subst ey eH
  obtain ⟨z,hd,vs,rel,dd⟩:=zmA I.hok e
  have hz:vs.length≤sizeLine:=by rw [←rel.length];exact z
  have hl:(putK kvs k v).length≤sizeLine:=by have:=zdw kvs k v;omega
  refine wpAny_setItem_pairs (hsz:=hz) (zfH ry) dd fun h' dd' hs=>h _ ?_
  have he:∃q,h'.get? a=some q:=let ⟨q,_,_,hq,_⟩:=dd';⟨q,hq⟩
  exact zhh I (by rw [e];exact True.intro) hs he (zlm hl hd (rel.put k rv) dd')
 ·subst ey eH
  cases (show u=Value.ref b from ry)
  obtain ⟨z,hd,xs,rel,dd⟩:=zmq I.hok e
  have hz:xs.length≤sizeLine:=by rw [←Paired.length rel];exact z
  have hl:(putK kvs k v).length≤sizeLine:=by have:=zdw kvs k v;omega
  refine wpAny_setItem_heap (hsz:=hz) (tupleKind_room_in1 hu) (zdT I.hok eb) dd fun h' dd' hs=>h _ ?_
  obtain ⟨q,es,ep,hq,h2,h3,h4,_,h5⟩:=dd'
  refine zhh I (by rw [e];exact True.intro) hs ⟨q,hq⟩ ⟨hl,hd,_,(rel.put k eb rv).keeps fun c ys ec=>?_,q,es,ep,hq,h2,h3,h4,h5⟩
  rw [zj (zaS ec e (fun z=>nomatch z))]
  exact ec
end
section
variable {X:Cx}{pins:List (Addr ×Obj)}{σ:St}{H:Hp}{s:Shared}{a:Addr}{kvs:List (Key ×V)}{k:Key}{u:Value}{A:Around}{E:Value→Shared→Prop}
end
def NoSl (i:Expr):Prop:=∀ov iv,subscripted i false ov iv=operate [ov,iv] (getItem ov iv)
theorem zkh {prog:Program}{w:World}{A:Around}{E:Value→Shared→Prop}{s:Shared}{env:Env}{value slice:Expr}{pos:Pos}{T id:String}{Q:Value→Shared→Prop}
  (hl:typeLookup (.type T) "__getitem__" =pure (some (.builtin id))) (hs:NoSl slice)
  (h:wpAny (model prog w) A (eval value env) (fun o s₁=>wpAny (model prog w) A (eval slice env) (fun i s₂=>s₂.TypeIs o T∧wpAny (model prog w) A (getItem o i) Q E s₂) E s₁) E s):
  wpAny (model prog w) A (eval (.Subscript value slice pos) env) Q E s:=by
 refine Subscript_ (wpAny_mono h (fun o s₁ h₁=>wpAny_mono h₁ (fun i s₂ h₂=>?_) fun _ _ x=>x) fun _ _ x=>x)
 obtain ⟨hT,h₂⟩:=h₂
 unfold subscriptTail
 refine wpAny_bind ?_
 rw [getitemInPython_of_ne hT.not_modules]
 refine wpAny_bind (wpAny_specialOf hT hl ?_)
 have fin:wpAny (model prog w) A (subscripted slice false o i) (fun r s₃=>wpAny (model prog w) A (letTemporaryGo value o r >>=fun _=>pure r) Q E s₃) E s₂:=by
  rw [hs o i]
  exact wpAny_operating (wpAny_mono h₂ (fun r s₃ h₃=>wpAny_bind (wpAny_letTemporaryGo (wpAny_pure h₃))) fun _ _ x=>x)
 first
  | exact wpAny_pure (wpAny_bind fin)
  | exact wpAny_bind (wpAny_pure (wpAny_bind fin))
  | exact wpAny_bind fin
theorem zfD {X:Cx}{pins:List (Addr ×Obj)}{σ:St}{H:Hp}{s:Shared}{a:Addr}{y:V}{o:Option V}(I:Inv X pins σ H s)(g:DGet H a y o):s.TypeIs (.ref a) "dict" :=by
 rcases g with ⟨kvs,k,e,_,_⟩ | ⟨kvs,k,b,e,_,_,_⟩
 ·obtain ⟨_,_,vs,_,dd⟩:=zfC I.hok e
  exact dd.typeIs
 ·obtain ⟨_,_,xs,_,dd⟩:=zfV I.hok e
  exact dd.typeIs
def zmr (td ty:TE):TE:=fun σ H Q=>td σ H fun x H1=>ty σ H1 fun y H2=>∃a v,x=.ref a∧DGet H2 a y (some v)∧Q v H2
def tDIn (ty td:TE):TE:=fun σ H Q=>ty σ H fun y H1=>td σ H1 fun x H2=>∃a o,x=.ref a∧DGet H2 a y o∧Q (.bl o.isSome) H2
def zj6 (ty td:TE):TE:=fun σ H Q=>ty σ H fun y H1=>td σ H1 fun x H2=>∃a o,x=.ref a∧DGet H2 a y o∧Q (.bl (!o.isSome)) H2
def zmw (td ty tv:TE):TS:=fun D σ H=>tv σ H fun v H1=>td σ H1 fun x H2=>ty σ H2 fun y H3=>∃a H4,x=.ref a∧DPut H3 a y v H4∧D.nx σ H4
def znt (td ty tv:TE)(rd:V→V→Hp→VK→Prop):TS:=fun D σ H=>td σ H fun x H1=>ty σ H1 fun y H2=>∃a v,x=.ref a∧DGet H2 a y (some v)∧
 tv σ H2 fun y2 H3=>rd v y2 H3 fun z H4=>∃H5,DPut H4 a y z H5∧D.nx σ H5
def zny (td ty:TE):TS:=fun D σ H=>td σ H fun x H1=>ty σ H1 fun y H2=>∃a kvs k,x=.ref a∧H2 a=some (.dK kvs)∧y=kV k∧(valV kvs k).isSome=true∧D.nx σ (upd H2 a (.dK (zfR kvs k)))
section
variable {X:Cx}{o i e value:Expr}{pos pos' tpos:Pos}{td ty tv:TE}
theorem zeW (hu:X.A.units+1 < cLine)(ho:PE X o td)(hi:PE X i ty)(hs:NoSl i):PE X (.Subscript o i pos) (zmr td ty):=by
 intro pins s σ H Q I h
 refine zkh PySem.F.slot_dict_getitem.lookup hs (thn (ho pins s σ H _ I h) fun u s1 ⟨x,H1,I1,rx,q1⟩=>thn (hi pins s1 σ H1 _ I1 q1) fun iv s2 ⟨y,H2,I2,ry,a,v,ex,g,q2⟩=>?_)
 subst ex
 obtain rfl:u=Value.ref a:=rx
 exact ⟨zfD I2 g,zh1 hu I2 g ry fun w' s3 I3 rw'=>⟨v,H2,I3,rw',q2⟩⟩
theorem zk9 (hu:X.A.units+1 < cLine)(hi:PE X i ty)(ho:PE X o td):PC X .In i o (tDIn ty td):=by
 intro pins s σ H Q I h
 refine thn (hi pins s σ H _ I h) fun iv s1 ⟨y,H1,I1,ry,q1⟩=>thn (ho pins s1 σ H1 _ I1 q1) fun u s2 ⟨x,H2,I2,rx,a,ov,ex,g,q2⟩=>?_
 subst ex
 obtain rfl:u=Value.ref a:=rx
 exact d_in hu I2 g ry fun s3 I3=>⟨.bl ov.isSome,H2,I3,rfl,q2⟩
theorem zht (hu:X.A.units+1 < cLine)(hi:PE X i ty)(ho:PE X o td):PC X .NotIn i o (zj6 ty td):=by
 intro pins s σ H Q I h
 refine thn (hi pins s σ H _ I h) fun iv s1 ⟨y,H1,I1,ry,q1⟩=>thn (ho pins s1 σ H1 _ I1 q1) fun u s2 ⟨x,H2,I2,rx,a,ov,ex,g,q2⟩=>?_
 subst ex
 obtain rfl:u=Value.ref a:=rx
 exact zj5 hu I2 g ry fun s3 I3=>⟨.bl (!ov.isSome),H2,I3,rfl,q2⟩
theorem zke (hu:X.A.units+1 < cLine)(ho:PE X o td)(hi:PE X i ty)(hv:PE X value tv)(hs:swapsWith value (some (.Subscript o i pos')) pos.line X.env=pure false):
  PS X (.Assign [.Subscript o i pos'] value pos) (zmw td ty tv):=by
 intro pins s σ H D I h
 refine wpAny_Assign_Subscript (thn (hv pins s σ H _ I h) fun r s1 ⟨v,H1,I1,rv,q1⟩=>thn (ho pins s1 σ H1 _ I1 q1) fun u s2 ⟨x,H2,I2,rx,q2⟩=>thn (hi pins s2 σ H2 _ I2 q2) fun iv s3 ⟨y,H3,I3,ry,a,H4,ex,g,q3⟩=>?_) hs
 subst ex
 obtain rfl:u=Value.ref a:=rx
 exact zib hu I3 g ry rv fun s4 I4=>⟨σ,H4,I4,q3⟩
end
theorem zjc {P:Program}{w:World}{H:Hp}(h:Heap)(hb:sysModules < h.objs.size):zY P w H (h.push {cls:=.type "dict",data:=.dict #[]}) h.objs.size (.dK []):=
 ⟨Nat.zero_le _,beq_eq_false_iff_ne.mpr (Ne.symm (Nat.ne_of_lt hb)),[],.nil,Heap.DictOf.new h⟩
def zlU:TE:=fun _ H Q=>∀p,H p=none→Q (.ref p) (upd H p (.dK []))
def zmX:TE:=fun _ H Q=>∀p,H p=none→Q (.ref p) (upd H p (.dT []))
section
variable {X:Cx}{pos:Pos}
theorem zjx:PE X (.Dict [] [] pos) zlU:=fun pins s σ H Q I h=>
 wpAny_Dict_empty ⟨.ref s.heap.objs.size,_,I.laid (a:=s.heap.objs.size) (o:=.dK []) (t':=s.toks) (fun _ _ q=>Heap.get?_push_of_some _ q) (Nat.le_refl _) (zjc s.heap I.big),rfl,h _ (I.hok.fresh (Nat.le_refl _))⟩
end
def zf6:List (TE ×TE)→St→Hp→(List (V ×V)→Hp→Prop)→Prop
 | [],_,H,Q=>Q [] H
 | (tk,tv)::r,σ,H,Q=>tk σ H fun x H1=>tv σ H1 fun y H2=>zf6 r σ H2 fun ps H3=>Q ((x,y)::ps) H3
abbrev VV:List (V ×V)→List (Value ×Value)→Prop:=Paired fun p q=>RelV p.1 q.1∧RelV p.2 q.2
def PPs (X:Cx)(pos:Pos)(keys:List (Option Expr))(values:List Expr)(trs:List (TE ×TE)):Prop:=
 ∀(pins:List (Addr ×Obj)) (s:Shared) (σ:St) (H:Hp) (Q:List (V ×V)→Hp→Prop),Inv X pins σ H s→zf6 trs σ H Q→
  wpAny (model X.prog X.w) X.A (evalPairs (pairTrees keys values X.env pos)) (fun vs s'=>∃ps H',Inv X pins σ H' s'∧VV ps vs∧Q ps H') X.xe s
def zlr (kvs more:List (Key ×V)):List (Key ×V):=more.foldl (fun acc kv=>putK acc kv.1 kv.2) kvs
def znn (trs:List (TE ×TE)):TE:=fun σ H Q=>∀p,H p=none→zf6 trs σ (upd H p (.dK [])) fun ps H2=>H2 p=some (.dK [])∧∃kvs:List (Key ×V),ps=kvs.map (fun kv=>(kV kv.1,kv.2))∧kvs.length≤15∧Q (.ref p) (upd H2 p (.dK (zlr [] kvs)))
structure M1 (X:Cx)(o:Expr)(m:Str)(apos:Pos)(e:Expr)(cpos:Pos):Prop where
 base:attributeBase o m X.env (eval o X.env)=eval o X.env
 few:((backTo cpos (starEach [e] X.env)).all (fun x=>!x.1) && (backToKw cpos (keywordEach [] X.env)).all (fun x=>x.1.isSome)
  && decide (([e]:List Expr).length+([]:List Keyword).length+(if ([]:List Keyword).isEmpty then 0 else 1) < 30))=true
 line:(apos.endLine==cpos.line)=true
 trees:backTo cpos (starEach [e] X.env)=[(false,eval e X.env)]
structure M2 (X:Cx)(o:Expr)(m:Str)(apos:Pos)(e f:Expr)(cpos:Pos):Prop where
 base:attributeBase o m X.env (eval o X.env)=eval o X.env
 few:((backTo cpos (starEach [e,f] X.env)).all (fun x=>!x.1) && (backToKw cpos (keywordEach [] X.env)).all (fun x=>x.1.isSome)
  && decide (([e,f]:List Expr).length+([]:List Keyword).length+(if ([]:List Keyword).isEmpty then 0 else 1) < 30))=true
 line:(apos.endLine==cpos.line)=true
 trees:backTo cpos (starEach [e,f] X.env)=[(false,eval e X.env),(false,eval f X.env)]
def IsD (H:Hp)(a:Addr):Prop:=(∃kvs,Rd H a (.dK kvs))∨∃kvs,Rd H a (.dT kvs)
section
variable {X:Cx}{pins:List (Addr ×Obj)}{σ:St}{H:Hp}{s:Shared}{a:Addr}{y d:V}{u r:Value}{o:Option V}{A:Around}{E:Value→Shared→Prop}
end
def znc (td ty:TE):TE:=fun σ H Q=>td σ H fun x H1=>∃a,x=.ref a∧IsD H1 a∧ty σ H1 fun y H2=>∃o,DGet H2 a y o∧Q (o.getD .non) H2
def znf (td ty tx:TE):TE:=fun σ H Q=>td σ H fun x H1=>∃a,x=.ref a∧IsD H1 a∧ty σ H1 fun y H2=>tx σ H2 fun z H3=>∃o,DGet H3 a y o∧Q (o.getD z) H3
def zng (td ty:TE):TE:=fun σ H Q=>td σ H fun x H1=>∃a,x=.ref a∧IsD H1 a∧ty σ H1 fun y H2=>∃kvs k v,H2 a=some (.dK kvs)∧y=kV k∧valV kvs k=some v∧Q v (upd H2 a (.dK (zfR kvs k)))
def zm5 (td ty tx:TE):TE:=fun σ H Q=>td σ H fun x H1=>∃a,x=.ref a∧IsD H1 a∧ty σ H1 fun y H2=>tx σ H2 fun z H3=>∃kvs k,H3 a=some (.dK kvs)∧y=kV k∧
 (∀v,valV kvs k=some v→Q v (upd H3 a (.dK (zfR kvs k))))∧(valV kvs k=none→Q z H3)
section
variable {X:Cx}{o e f:Expr}{apos cpos:Pos}{td ty tx:TE}
end
section
variable {X:Cx}{pins:List (Addr ×Obj)}{σ:St}{H:Hp}{s:Shared}{a:Addr}{kvs:List (Key ×V)}{A:Around}{E:Value→Shared→Prop}
end
section
variable {X:Cx}{pins:List (Addr ×Obj)}{σ:St}{H:Hp}{s:Shared}{a:Addr}{y:V}{u:Value}{A:Around}{E:Value→Shared→Prop}
end
end L2
namespace Px
open PySem
def Tb (h:Heap)(e:Addr)(cls:Value)(od:Option Addr)(T:Addr)(fl:Value):Prop:=
 ∃oe vs oT ts,h.get? e=some oe∧oe.cls=cls∧oe.dict=od∧oe.data=.fields vs∧vs[1]? =some (.ref T)∧T≠e∧h.get? T=some oT∧oT.data=.fields ts∧ts[3]? =some fl
structure Chg (fs:List Addr)(e T:Addr)(h h':Heap):Prop where
 size:h.objs.size≤h'.objs.size
 keep:∀b o,h.get? b=some o→b∉fs→b≠e→b≠T→h'.get? b=some o
 slot:∀b o,h.get? b=some o→b∈fs→b≠e→b≠T→∃sl,h'.get? b=some {o with slots:=sl}
theorem zlx (o:Obj)(f:Array Value→Array Value):(Obj.mapFields f o).cls=o.cls:=Obj.cls_mapFields _ _
theorem zj7 (o:Obj)(f:Array Value→Array Value):(Obj.mapFields f o).dict=o.dict:=by
 obtain ⟨c,d,dt,sl⟩:=o
 cases dt <;> rfl
section
variable {M:Model}{A:Around}{E:Value→Shared→Prop}{s:Shared}{base:Heap}{env:Env}{outer:List Env}{L e T:Addr}
theorem entry {oe:Obj}{vs:Array Value}{head:Value}{hadNext:Bool}{Q:Unit→Shared→Prop}(hfr:A.frames=some (env::outer))
  (hl:s.heap.FunFrames base (env::outer)) (hf:env.frame=some L)
  (he:s.heap.get? e=some oe) (hd:oe.data=.fields vs) (hsz:1 < vs.size)
  (h:∀h' T',s.heap.objs.size≤T'→Tb h' e oe.cls oe.dict T' (rawInt L)→Chg ((env::outer).filterMap (·.frame)) e T' s.heap h'→Q () {s with heap:=h'}):
  wpAny M A (do
   let a←frameOf env
   let pl←entryPlaceOf L hadNext
   let b←EntryCells.newEntry head a .none (rawInt L) .none pl
   setField (.ref e) 1 b) Q E s:=by
 have nfr:e∉(env::outer).filterMap (·.frame):=fun hm=>by
  obtain ⟨_,o,ho,hnf⟩:=hl.mem hm
  have z:oe=o:=Option.some.inj (he.symm.trans ho)
  exact hnf vs (by rw [←z];exact hd)
 refine wpAny_bind (wpAny_frameOf_fun hfr hl hf fun g x=>?_)
 refine wpAny_bind (wpAny_entryPlaceOf fun pl hp=>?_)
 unfold EntryCells.newEntry newFields
 refine wpAny_bind (wpAny_newObj_type ?_ (hp.sizeOk5 _ _ _ _ _))
 have ge:g.get? e=some oe:=(x.2.1 e nfr).trans he
 generalize hN:({cls:=.type "traceback",dict:=none,data:=.fields ([head,.ref L,.none,rawInt L,.none]++(if pl.isEmpty then List.replicate 6 Value.none else pl)).toArray}:Obj)=N
 have nfN:N.isFreed=false:=by rw [←hN];rfl
 have dN:∃ts,N.data=.fields ts∧ts[3]? =some (rawInt L):=by
  rw [←hN]
  exact ⟨_,rfl,by first | (simp;done) | (rcases hp with rfl | ⟨_,_,_,_,_,_,_,rfl⟩ <;> simp)⟩
 have pe:(g.push N).get? e=some oe:=Heap.get?_push_of_some N ge
 have pT:(g.push N).get? g.objs.size=some N:=Heap.get?_push_size g nfN
 have Te:g.objs.size≠e:=Ne.symm (Nat.ne_of_lt (Heap.lt_size ge))
 refine wpAny_setField pe hd hsz (h _ g.objs.size (by rw [x.1];exact Nat.le_refl _) ?_ ?_)
 ·obtain ⟨ts,d1,d2⟩:=dN
  have dd:=Obj.data_mapFields hd (·.setIfInBounds 1 (Value.ref g.objs.size))
  refine ⟨_,_,N,ts,Heap.get?_update_self _ pe (Obj.isFreed_of_fields dd),zlx _ _,zj7 _ _,dd,by simp [hsz],Te,?_,d1,d2⟩
  exact (Heap.get?_update_other _ _ (Ne.symm Te)).trans pT
 ·refine ⟨?_,fun b o q1 q2 q3 q4=>?_,fun b o q1 q2 q3 q4=>?_⟩
  ·rw [Heap.size_after_update,Heap.size_push,x.1];exact Nat.le_succ _
  ·exact (Heap.get?_update_other _ _ (Ne.symm q3)).trans (Heap.get?_push_of_some N ((x.2.1 b q2).trans q1))
  ·obtain ⟨sl,q⟩:=x.2.2 b o q1
   exact ⟨sl,(Heap.get?_update_other _ _ (Ne.symm q3)).trans (Heap.get?_push_of_some N q)⟩
theorem zmG {oe:Obj}{vs:Array Value}{Q:Unit→Shared→Prop}(hfr:A.frames=some (env::outer))(hl:s.heap.FunFrames base (env::outer))(hf:env.frame=some L)
  (he:s.heap.get? e=some oe) (hd:oe.data=.fields vs) (h1:vs[1]? =some .none)
  (h:∀h' T',s.heap.objs.size≤T'→Tb h' e oe.cls oe.dict T' (rawInt L)→Chg ((env::outer).filterMap (·.frame)) e T' s.heap h'→Q () {s with heap:=h'}):
  wpAny M A (noteFrame (.ref e) env) Q E s:=by
 unfold noteFrame
 simp only [hf]
 refine wpAny_bind (wpAny_field he hd h1 ?_)
 rw [if_neg (by decide)]
 exact entry hfr hl hf he hd (Array.getElem?_eq_some_iff.mp h1).1 h
theorem zkN {cls:Value}{od:Option Addr}{Q:Unit→Shared→Prop}(hfr:A.frames=some (env::outer))(hl:s.heap.FunFrames base (env::outer))(hf:env.frame=some L)
  (t:Tb s.heap e cls od T .none)
  (h:∀h' T',s.heap.objs.size≤T'→Tb h' e cls od T' (rawInt L)→Chg ((env::outer).filterMap (·.frame)) e T s.heap h'→Q () {s with heap:=h'}):
  wpAny M A (noteFrame (.ref e) env) Q E s:=by
 obtain ⟨oe,vs,oT,ts,he,hc,ho,hd,h1,hTe,hT,hdT,h3⟩:=t
 unfold noteFrame
 simp only [hf]
 refine wpAny_bind (wpAny_field he hd h1 ?_)
 rw [if_pos (show (Value.ref T !=Value.none)=true from by simp)]
 refine wpAny_bind (wpAny_field hT hdT h3 ?_)
 rw [if_neg (show¬((Value.none==rawInt L)=true) from by simp [rawInt])]
 refine wpAny_bind (wpAny_setField hT hdT (Array.getElem?_eq_some_iff.mp h3).1 ?_)
 have oth:∀b,b≠T→(s.heap.update T (Obj.mapFields (·.setIfInBounds 3 Value.none))).get? b=s.heap.get? b:=fun b hb=>Heap.get?_update_other _ _ (Ne.symm hb)
 have apart:∀b o,s.heap.get? b=some o→(∀vs,o.data≠ .fields vs)→b≠T:=fun b o hb hn q=>by
  subst q
  exact hn ts (by rw [←Option.some.inj (hT.symm.trans hb)];exact hdT)
 refine entry (s:={s with heap:=s.heap.update T (Obj.mapFields (·.setIfInBounds 3 Value.none))}) hfr
  (hl.of_keeps fun b o hb hn=>⟨o,(oth b (apart b o hb hn)).trans hb,rfl⟩) hf ((oth e (Ne.symm hTe)).trans he) hd (Array.getElem?_eq_some_iff.mp h1).1 fun h' T' z1 z2 z3=>?_
 have z1':s.heap.objs.size≤T':=by rw [←Heap.size_after_update s.heap T (Obj.mapFields (·.setIfInBounds 3 Value.none))];exact z1
 rw [hc,ho] at z2
 refine h h' T' z1' z2 ⟨?_,fun b o q1 q2 q3 q4=>?_,fun b o q1 q2 q3 q4=>?_⟩
 ·rw [←Heap.size_after_update s.heap T (Obj.mapFields (·.setIfInBounds 3 Value.none))];exact z3.size
 ·exact z3.keep b o ((oth b q4).trans q1) q2 q3 fun q=>absurd (Heap.lt_size q1) (Nat.not_lt.mpr (q ▸ z1'))
 ·exact z3.slot b o ((oth b q4).trans q1) q2 q3 fun q=>absurd (Heap.lt_size q1) (Nat.not_lt.mpr (q ▸ z1'))
theorem zdh {fs:List Addr}{cls fl:Value}{od:Option Addr}{Q:Unit→Shared→Prop}(t:Tb s.heap e cls od T fl)
  (h:∀h',Tb h' e cls od T .none→Chg fs e T s.heap h'→(∀b o,s.heap.get? b=some o→b≠T→h'.get? b=some o)→Q () {s with heap:=h'}):wpAny M A (setFlight (.ref e) none) Q E s:=by
 obtain ⟨oe,vs,oT,ts,he,hc,ho,hd,h1,hTe,hT,hdT,h3⟩:=t
 have z3:3 < ts.size:=(Array.getElem?_eq_some_iff.mp h3).1
 have oth:∀b,b≠T→(s.heap.update T (Obj.mapFields (·.setIfInBounds 3 ((none:Option Addr).elim Value.none fun f=>rawInt f)))).get? b=s.heap.get? b:=
  fun b hb=>Heap.get?_update_other _ _ (Ne.symm hb)
 unfold setFlight
 refine wpAny_bind (wpAny_field he hd h1 ?_)
 rw [if_pos (show (Value.ref T !=Value.none)=true from by simp)]
 have dd:=Obj.data_mapFields hdT (·.setIfInBounds 3 ((none:Option Addr).elim Value.none fun f=>rawInt f))
 refine wpAny_setField hT hdT z3 (h _ ⟨oe,vs,_,_,(oth e (Ne.symm hTe)).trans he,hc,ho,hd,h1,hTe,Heap.get?_update_self _ hT (Obj.isFreed_of_fields dd),dd,by simp [z3]⟩ ?_ ?_)
 ·refine ⟨?_,fun b o q1 _ _ q4=>(oth b q4).trans q1,fun b o q1 _ _ q4=>⟨o.slots,(oth b q4).trans q1⟩⟩
  rw [Heap.size_after_update];exact Nat.le_refl _
 ·exact fun b o q1 q4=>(oth b q4).trans q1
end
structure Chg2 (fs:List Addr)(own:Addr→Prop)(h h':Heap):Prop where
 size:h.objs.size≤h'.objs.size
 keep:∀b o,h.get? b=some o→b∉fs→¬own b→h'.get? b=some o
 slot:∀b o,h.get? b=some o→b∈fs→¬own b→∃sl,h'.get? b=some {o with slots:=sl}
theorem Chg.two {fs:List Addr}{own:Addr→Prop}{e T:Addr}{h h':Heap}(c:Chg fs e T h h')(o1:own e)(o2:own T∨h.get? T=none):Chg2 fs own h h':=by
 have nT:∀b o,h.get? b=some o→¬own b→b≠T:=fun b o q n z=>by
  subst z
  rcases o2 with y | y
  ·exact n y
  ·rw [y] at q;cases q
 exact ⟨c.size,fun b o q a n=>c.keep b o q a (fun z=>n (z ▸ o1)) (nT b o q n),fun b o q a n=>c.slot b o q a (fun z=>n (z ▸ o1)) (nT b o q n)⟩
theorem Chg2.trans {fs:List Addr}{own:Addr→Prop}{h h1 h2:Heap}(a:Chg2 fs own h h1)(b:Chg2 fs own h1 h2):Chg2 fs own h h2:=
 ⟨Nat.le_trans a.size b.size,fun c o q n m=>b.keep c o (a.keep c o q n m) n m,fun c o q n m=>by
  obtain ⟨s1,e1⟩:=a.slot c o q n m
  obtain ⟨s2,e2⟩:=b.slot c _ e1 n m
  exact ⟨s2,e2⟩⟩
section
variable {M:Model}{A:Around}{E:Value→Shared→Prop}{s:Shared}{base:Heap}{env:Env}{outer:List Env}{L e T:Addr}
theorem zlt {oe:Obj}{vs:Array Value}{Q:Unit→Shared→Prop}(hfr:A.frames=some (env::outer))(hl:s.heap.FunFrames base (env::outer))(hf:env.frame=some L)
  (he:s.heap.get? e=some oe) (hd:oe.data=.fields vs) (h1:vs[1]? =some .none)
  (h:∀h' T',s.heap.objs.size≤T'→Tb h' e oe.cls oe.dict T' .none→Chg2 ((env::outer).filterMap (·.frame)) (· =e) s.heap h'→Q () {s with heap:=h'}):
  wpAny M A (leaving env (.ref e)) Q E s:=by
 unfold leaving
 refine wpAny_bind (zmG hfr hl hf he hd h1 fun g T' z t c=>?_)
 refine zdh (s:={s with heap:=g}) (fs:=(env::outer).filterMap (·.frame)) t fun h' t' c' k=>h h' T' z t' ?_
 have n:s.heap.get? T'=none:=Heap.get?_none_of_le z
 refine ⟨Nat.le_trans c.size c'.size,fun b o q a m=>?_,fun b o q a m=>?_⟩
 ·have bT:b≠T':=fun y=>by subst y;rw [n] at q;cases q
  exact k b o (c.keep b o q a m bT) bT
 ·have bT:b≠T':=fun y=>by subst y;rw [n] at q;cases q
  obtain ⟨sl,y⟩:=c.slot b o q a m bT
  exact ⟨sl,k b _ y bT⟩
theorem zls {cls:Value}{od:Option Addr}{Q:Unit→Shared→Prop}(hfr:A.frames=some (env::outer))(hl:s.heap.FunFrames base (env::outer))(hf:env.frame=some L)
  (t:Tb s.heap e cls od T .none)
  (h:∀h' T',s.heap.objs.size≤T'→Tb h' e cls od T' .none→Chg2 ((env::outer).filterMap (·.frame)) (fun b=>b=e∨b=T) s.heap h'→Q () {s with heap:=h'}):
  wpAny M A (leaving env (.ref e)) Q E s:=by
 unfold leaving
 refine wpAny_bind (zkN hfr hl hf t fun g T' z t1 c=>?_)
 refine zdh (s:={s with heap:=g}) (fs:=(env::outer).filterMap (·.frame)) t1 fun h' t' c' k=>h h' T' z t' ?_
 have n:s.heap.get? T'=none:=Heap.get?_none_of_le z
 refine ⟨Nat.le_trans c.size c'.size,fun b o q a m=>?_,fun b o q a m=>?_⟩
 ·have bT:b≠T':=fun y=>by subst y;rw [n] at q;cases q
  exact k b o (c.keep b o q a (fun y=>m (.inl y)) fun y=>m (.inr y)) bT
 ·have bT:b≠T':=fun y=>by subst y;rw [n] at q;cases q
  obtain ⟨sl,y⟩:=c.slot b o q a (fun y=>m (.inl y)) fun y=>m (.inr y)
  exact ⟨sl,k b _ y bT⟩
theorem zk5 {cls:Value}{od:Option Addr}{Q:Unit→Shared→Prop}(hfr:A.frames=some (env::outer))(hl:s.heap.FunFrames base (env::outer))(hf:env.frame=some L)
  (t:Tb s.heap e cls od T .none)
  (h:∀h' T',s.heap.objs.size≤T'→Tb h' e cls od T' .none→Chg2 ((env::outer).filterMap (·.frame)) (fun b=>b=e∨b=T) s.heap h'→Q () {s with heap:=h'}):
  wpAny M A (noteFrame (.ref e) env) (fun _ s'=>wpAny M A (setFlight (.ref e) none) Q E s') E s:=by
 refine zkN hfr hl hf t fun g T' z t1 c=>?_
 refine zdh (s:={s with heap:=g}) (fs:=(env::outer).filterMap (·.frame)) t1 fun h' t' c' k=>h h' T' z t' ?_
 have n:s.heap.get? T'=none:=Heap.get?_none_of_le z
 refine ⟨Nat.le_trans c.size c'.size,fun b o q a m=>?_,fun b o q a m=>?_⟩
 ·have bT:b≠T':=fun y=>by subst y;rw [n] at q;cases q
  exact k b o (c.keep b o q a (fun y=>m (.inl y)) fun y=>m (.inr y)) bT
 ·have bT:b≠T':=fun y=>by subst y;rw [n] at q;cases q
  obtain ⟨sl,y⟩:=c.slot b o q a (fun y=>m (.inl y)) fun y=>m (.inr y)
  exact ⟨sl,k b _ y bT⟩
end
end Px
namespace Px
open PySem PySem.W PySem.Builtin PySem.Builtin.ObjectAttr
abbrev bmV:List Value:=[.type "ValueError",.type "Exception",.type "BaseException",.type "object"]
def xIn (K:Frag)(C:Addr):Bool:=match K.lookup C with
 | some ⟨.type "type",_,.cls cd,sl⟩=>(match cd.mro,sl.toList with
  | .ref D::bm,[_,_,_,_,some (.builtin n),_]=>D==C && n== "ValueError.__new__" && !cd.hasDel && tailIn K bmV bm
  | _,_=>false)
 | _=>false
theorem zit {K:Frag}{h:Heap}{C:Addr}(X:K.In h)(q:xIn K C=true):∃nm qn N bs bm hd sn sub ab col dd k0 k1 k2 k3 k5,
  h.get? C=some (excClassObj nm qn C N bs bm hd sn sub ab col dd k0 k1 k2 k3 k5 "ValueError.__new__")∧OwnTail h bmV bm:=by
 unfold xIn at q
 split at q
 ·rename_i dd cd sl ho
  split at q
  ·rename_i D bm k0 k1 k2 k3 n k5 hm hs
   simp only [Bool.and_eq_true,beq_iff_eq,Bool.not_eq_true'] at q
   obtain ⟨⟨⟨y1,y2⟩,y3⟩,y4⟩:=q
   subst y1;subst y2
   obtain ⟨nm,bs,mro,ns,qn,hd,sn,sub,ab,col,del⟩:=cd
   dsimp only at hm y3
   subst hm;subst y3
   have e:sl= #[k0,k1,k2,k3,some (.builtin "ValueError.__new__"),k5]:=by
    obtain ⟨l⟩:=sl
    exact congrArg Array.mk hs
   subst e
   exact ⟨nm,qn,ns,bs,bm,hd,sn,sub,ab,col,dd,k0,k1,k2,k3,k5,X _ _ ho,tail_of_in X y4⟩
  ·cases q
 ·cases q
abbrev zgl (C t:Addr):Obj:={cls:=.ref C,data:=.fields #[.ref t,.none,.none,.none,.bool false,.none]}
abbrev zly (vs:List Value):Obj:={cls:=.type "tuple",data:=.seq vs.toArray}
abbrev za4 (h:Heap)(C:Addr)(vs:List Value):Heap:=(h.push (zly vs)).push (zgl C h.objs.size)
theorem zb2 {h:Heap}{C:Addr}{vs:List Value}{b:Addr}{o:Obj}(e:h.get? b=some o):(za4 h C vs).get? b=some o:=
 Heap.get?_push_of_some _ (Heap.get?_push_of_some _ e)
theorem zd3 {h:Heap}{C:Addr}{vs:List Value}:(za4 h C vs).get? (h.objs.size+1)=some (zgl C h.objs.size):=
 Heap.get?_push_at (by rw [Heap.size_push]) rfl
section
variable {prog:Program}{w:World}{A:Around}{E:Value→Shared→Prop}{h:Heap}{g:Array GenState}{d:Drawn}{t:Nat}{os:OsState}{K:Frag}{C fI:Addr}{vs:List Value}
theorem zhs {Q:Fin→Shared→Prop}(X:K.In h)(q:xIn K C=true)(hi:findIn K (.ref C) "__init__" =some (some (.ref fI))) (hf:typeIn K (.ref fI)=some (.type "function"))
  (hq:wpAny (model prog w) A (call (.ref fI) (.ref (h.objs.size+1)::vs)) (fun r s'=>r=.none∧Q (.done (.ret (.ref (h.objs.size+1)))) s') E ⟨za4 h C vs,g,d,t,os⟩) (hz:vs.length≤sizeLine):
  wpAny (model prog w) A (Builtin.«type.__call__» ⟨.ref C::vs,[]⟩) Q E ⟨h,g,d,t,os⟩:=by
 obtain ⟨nm,qn,N,bs,bm,hd,sn,sub,ab,col,dd,k0,k1,k2,k3,k5,cO,tl⟩:=zit X q
 have FV:=PySem.F.excBase_ValueError
 have inV:bmV.contains (.type "ValueError")=true:=by decide
 repeat (first | with_reducible refine wpAny_loadPart_at cO ?_ | with_reducible refine wpAny_madeBy_exc cO ?_ | wp_step)
 refine codeAny_call_builtin_code (Code.quiet_builtin _ FV.quiet) (wpAny_check_new_subU FV inV tl cO ?_)
 refine codeAny_exc_new_subU FV inV FV tl cO ?_ hz
 show wpAny _ _ _ _ _ _
 have cO1:(za4 h C vs).get? C=_:=zb2 cO
 have X1:K.In (za4 h C vs):=X.keeps fun b o e=>zb2 e
 have at1:(za4 h C vs).get? (h.objs.size+1)=some (zgl C h.objs.size):=zd3
 have cC:(Value.ref C::bm).contains (.ref C)=true:=by simp
 unfold isInstance
 repeat (first | with_reducible refine wpAny_loadPart_at at1 ?_ | (with_reducible refine wpAny_isSubtype_exc cO1 ?_;rw [cC]) | wp_step)
 show wpAny _ _ (typeLookup (.ref C) _) _ _ _
 refine (looks_findIn X1 hi).here (s:=⟨za4 h C vs,g,d,t,os⟩) ?_
 refine wpAny_holding (wpAny_bind ((bind_fn X1 _ hf).here (s:=⟨za4 h C vs,g,d,t,os⟩) ?_))
 refine wpAny_bind (wpAny_mono hq (fun r s' hr=>?_) fun _ _ x=>x)
 obtain ⟨e1,hQ⟩:=hr
 subst e1
 wp_walk
 exact hQ
theorem zhr {Q:Value→Shared→Prop}(X:K.In h)(q:xIn K C=true)(hi:findIn K (.ref C) "__init__" =some (some (.ref fI))) (hf:typeIn K (.ref fI)=some (.type "function"))
  (hq:wpAny (model prog w) (A.under (.builtin "type.__call__" ⟨.ref C::vs,[]⟩)) (call (.ref fI) (.ref (h.objs.size+1)::vs)) (fun r s'=>r=.none∧Q (.ref (h.objs.size+1)) s') E ⟨za4 h C vs,g,d,t,os⟩)
  (hz:vs.length≤sizeLine):wpAny (model prog w) A (call (.ref C) vs) Q E ⟨h,g,d,t,os⟩:=by
 obtain ⟨nm,qn,N,bs,bm,hd,sn,sub,ab,col,dd,k0,k1,k2,k3,k5,cO,tl⟩:=zit X q
 have l1:=tc_lookup
 have l2:=tc_bind (.ref C)
 have isT:(⟨h,g,d,t,os⟩:Shared).TypeIs (.ref C) "type" :=⟨_,cO,rfl⟩
 refine wpAny_call (codeAny_of_tree ?_)
 show wpAny _ _ (callAny (.ref C) _) _ _ _
 repeat (any_goals (first | assumption | with_reducible refine wpAny_loadPart_at cO ?_ | wp_step))
 refine ⟨rfl,?_⟩
 refine codeAny_call_builtin_at (Code.quiet_builtin _ (by decide+kernel)) entry_typeCall (wpAny_check_type_call_sub cO (zhs X q hi hf ?_ hz))
 exact hq
theorem zgC {s:Shared}{Q:Value→Shared→Prop}(X:K.In s.heap)(q:excIn K C bmV "ValueError.__new__" =true)
  (hq:∀h' e,Heap.MadeExcOf s.heap h' e (.ref C) vs→Q (.ref e) {s with heap:=h'}) (hz:vs.length≤sizeLine):wpAny (model prog w) A (call (.ref C) vs) Q E s:=by
 obtain ⟨h,g,d,t,os⟩:=s
 have FV:=PySem.F.excBase_ValueError
 have inV:bmV.contains (.type "ValueError")=true:=by decide
 unfold excIn at q
 split at q
 ·rename_i dd cd sl ho
  split at q
  ·rename_i D bm k0 k1 k2 k3 n k5 hm hs
   simp only [Bool.and_eq_true,beq_iff_eq,Bool.not_eq_true'] at q
   obtain ⟨⟨⟨⟨⟨y1,y2⟩,y3⟩,y4⟩,y5⟩,y6⟩:=q
   subst y1;subst y2
   obtain ⟨nm,bs,mro,ns,qn,hd,sn,sub,ab,col,del⟩:=cd
   dsimp only at hm y3 y5 y6
   subst hm;subst y3
   have e:sl= #[k0,k1,k2,k3,some (.builtin "ValueError.__new__"),k5]:=by
    obtain ⟨l⟩:=sl
    exact congrArg Array.mk hs
   subst e
   exact wpAny_call_exc_subU FV inV FV (tail_of_in X y4) (X _ _ ho) (.of_isNs (isNs_of_in X y5)) (nsMap_none_of_in X y5 y6) hq hz
  ·cases q
 ·cases q
end
section
variable {prog:Program}{w:World}{A:Around}{E:Value→Shared→Prop}{s:Shared}{env:Env}{K:Frag}
theorem zgg {x:Sem Value}{Q:Flow→Shared→Prop}(hh:A.handled=none)
  (h:wpAny (model prog w) A x (fun v s₁=>∃e C t oe,v=.ref e∧K.In s₁.heap∧xIn K C=true∧s₁.heap.get? e=some oe∧oe.cls=.ref C∧oe.data=.fields #[.ref t,.none,.none,.none,.bool false,.none]∧E (.ref e) s₁) E s):
  wpAny (model prog w) A (raiseStmt env (some x) none) Q E s:=by
 unfold raiseStmt
 refine wpAny_bind (wpAny_mono h (fun v s₁ h₁=>?_) fun _ _ x=>x)
 obtain ⟨e,C,t,oe,rfl,X,q,he,hc,hd,hE⟩:=h₁
 obtain ⟨nm,qn,N,bs,bm,hdc,sn,sub,ab,col,dd,k0,k1,k2,k3,k5,cO,tl⟩:=zit X q
 have cB:(Value.ref C::bm).contains (.type "BaseException")=true:=by rw [List.contains_cons,tl.hasType (show bmV.contains (.type "BaseException")=true from by decide),Bool.or_true]
 obtain ⟨hp,g,d,tk,os⟩:=s₁
 obtain ⟨c0,d0,dt,sl⟩:=oe
 dsimp only at hc hd
 subst hc;subst hd
 repeat (first | with_reducible refine wpAny_loadPart_at he ?_ | with_reducible refine wpAny_loadPart_at cO ?_ | (with_reducible refine wpAny_isSubtype_exc cO ?_;rw [cB]) | wp_step)
 exact wpAny_raiseNew_none hh hE
end
def zbU:List Value→Bool
 | []=>false
 | v::r=>(v::r)==bmV || (match v with | .ref _=>zbU r | _=>false)
theorem zbF {P:List Value→Prop}(base:P bmV)(own:∀c r,P r→P (.ref c::r)):∀{l:List Value},zbU l=true→P l
 | [],e=>by cases e
 | v::r,e=>by
  unfold zbU at e
  rcases Bool.or_eq_true_iff.mp e with q | q
  ·rw [beq_iff_eq.mp q];exact base
  ·cases v <;> first | exact own _ _ (zbF base own q) | cases q
def zcY (K:Frag)(C:Addr):Bool:=(clsIn K C).any fun cd=>zbU cd.mro && cd.hasDict
theorem zgh (self:Value){l:List Value}(e:zbU l=true):refuseLoop self "__setattr__" l=pure ():=
 zbF (P:=fun l=>refuseLoop self "__setattr__" l=pure ()) (PySem.F.store_ValueError.passes self) (fun c r q=>by rw [refuseLoop_ref];exact q) e
theorem zkf {v:Value}(hv:bmV.contains v=true){l:List Value}(e:zbU l=true):l.contains v=true:=
 zbF (P:=fun l=>l.contains v=true) hv (fun c r q=>by rw [List.contains_cons,q,Bool.or_true]) e
theorem zlL {l:List Value}(e:zbU l=true):l.isEmpty=false:=by
 cases l with
 | nil=>cases e
 | cons _ _=>rfl
section
variable {prog:Program}{w:World}{A:Around}{E:Value→Shared→Prop}{s:Shared}{K:Frag}{x C:Addr}{ox:Obj}{name:Str}{v:Value}
theorem zf9 {M:Model}{od:Option Obj}{T:String}(X:K.In s.heap)(I:InstAt s.heap x ox C od)(hp:zcY K C=true)(hT:bmV.contains (.type T)=true):Looks M s.heap (isInstance (.ref x) (.type T)) true:=by
 obtain ⟨cd,hc,ho⟩:=any_some hp
 obtain ⟨o1,o2⟩:=Bool.and_eq_true_iff.mp ho
 refine I.type.andThen (looks_mroIn X ?_)
 unfold mroIn
 rw [hc,Option.bind_some,if_neg (by rw [zlL o1];decide),zkf hT o1]
theorem zij {R:Result→Shared→Prop}{od:Option Obj}{tk:Tok}(X:K.In s.heap)(I:InstAt s.heap x ox C od)(hp:zcY K C=true)(ht:findIn K (.ref C) name=some none)
  (h:∀b,wpAny (model prog w) A.in1 (storeInOwnDict (.ref x) (.ref C) (.str name tk) name v b)
   (fun fin s'=>match fin with
    | .done f=>R (.ok f) s'
    | .again c'=>c'.quiet=true∧codeAny (model prog w) A c' R s') (fun e s'=>R (.error e) s') s):
  codeAny (model prog w) A (.call (.builtin "object.__setattr__") ⟨[.ref x,.str name tk,v],[]⟩) R s:=by
 have FS:=PySem.F.store_ValueError
 have isO:=zf9 (M:=model prog w) (T:= "object") X I hp (by decide)
 obtain ⟨cd,hc,ho⟩:=any_some hp
 obtain ⟨o1,o2⟩:=Bool.and_eq_true_iff.mp ho
 refine codeAny_call_builtin FS.slot.plain FS.entry (@check_slot (model prog w) _ _ s "object.__setattr__" "object" "__setattr__" (.ref x) [.str name tk,v] [] _ FS.kind FS.split isO (FS.args (.ref x) (.str name tk) v) ?_)
 have mr:Looks (model prog w) s.heap (mroOf (.ref C)) cd.mro:=(looks_clsIn X hc).andThen .now
 rw [osa_eq,refuse_eq]
 refine wpAny_bind (wpAny_bind (I.type.here (wpAny_bind (mr.here ?_))))
 rw [zgh _ o1]
 have nt:Looks (model prog w) s.heap (storeTaker? none) none:=.now
 refine wpAny_pure (wpAny_bind (I.type.here (wpAny_bind ((looks_findIn X ht).here (wpAny_bind (nt.here ?_))))))
 exact h _
theorem zlC {Q:Unit→Shared→Prop}{vs:Array Value}{sl:Array (Option Value)}(X:K.In s.heap)(hx:s.heap.get? x=some ⟨.ref C,none,.fields vs,sl⟩)(hp:zcY K C=true)
  (hs:findIn K (.ref C) "__setattr__" =some (some (.builtin "object.__setattr__"))) (ht:findIn K (.ref C) name=some none)
  (h:∀h' tk,h'.get? x=some ⟨.ref C,some s.heap.objs.size,.fields vs,sl⟩→h'.Ns1 s.heap.objs.size (fun y=>if y=name then some v else none)→s.heap.objs.size≤h'.objs.size→
   (∀b o,b≠x→s.heap.get? b=some o→h'.get? b=some o)→Q () {s with heap:=h',toks:=tk}):wpAny (model prog w) A (setAttr (.ref x) name v) Q E s:=by
 have I:InstAt s.heap x ⟨.ref C,none,.fields vs,sl⟩ C none:=⟨hx,rfl,rfl,trivial⟩
 obtain ⟨cd,hc,ho⟩:=any_some hp
 obtain ⟨o1,o2⟩:=Bool.and_eq_true_iff.mp ho
 refine set_plain X I hs (zij (s:={s with toks:=s.toks+1}) X I hp ht fun b=>?_)
 refine wpAny_bind (wpAny_pure (wpAny_bind (wpAny_bind (wpAny_loadPart hx (wpAny_bind (Looks.here (s:={s with toks:=s.toks+1}) (looks_clsIn X hc) ?_))))))
 rw [o2]
 have hx1:(s.heap.push {cls:=.type "dict",data:=.dict #[]}).get? x=some ⟨.ref C,none,.fields vs,sl⟩:=Heap.get?_push_of_some _ hx
 have xs:x≠s.heap.objs.size:=Nat.ne_of_lt (Heap.lt_size hx)
 refine wpAny_bind (wpAny_alloc' ?_)
 refine wpAny_bind (wpAny_update' hx1 ?_)
 refine wpAny_pure ?_
 have gd:((s.heap.push {cls:=.type "dict",data:=.dict #[]}).update x fun o=>{o with dict:=some s.heap.objs.size}).get? s.heap.objs.size=some {cls:=.type "dict",data:=.dict #[]}:=
  (Heap.get?_update_other _ _ xs).trans (Heap.get?_push_size _ rfl)
 have gx:((s.heap.push {cls:=.type "dict",data:=.dict #[]}).update x fun o=>{o with dict:=some s.heap.objs.size}).get? x=some ⟨.ref C,some s.heap.objs.size,.fields vs,sl⟩:=
  Heap.get?_update_self _ hx1 rfl
 have nd:((s.heap.push {cls:=.type "dict",data:=.dict #[]}).update x fun o=>{o with dict:=some s.heap.objs.size}).Ns s.heap.objs.size (fun _=>none):=
  ⟨_, #[],_,gd,rfl,fun e he=>absurd he (by simp),fun _=>rfl⟩
 show wpAny _ _ (storeInDict s.heap.objs.size (.str name _) name v) _ _ _
 unfold storeInDict newKeyGuard
 refine wpAny_bind (wpAny_pure (wpAny_bind (wpAny_nsSet1 (Heap.Ns1.of_empty nd) fun h' n' sb=>?_)))
 obtain ⟨oD,esD,epD,q1,q2,q3⟩:=n'.count (Within.cons name v Within.nil)
 refine wpAny_bind (wpAny_lookBehind q1 (by rw [q2];exact pastItsLine_dict (Nat.le_trans q3 (by rw [List.length_cons,List.length_nil,sizeLine_eq];omega))) ?_)
 refine wpAny_pure (h h' _ ((sb.2 x xs).trans gx) n' ?_ fun b o bx e=>?_)
 ·rw [sb.1,Heap.size_after_update,Heap.size_push];exact Nat.le_succ _
 ·exact (sb.2 b (Nat.ne_of_lt (Heap.lt_size e))).trans ((Heap.get?_update_other _ _ (Ne.symm bx)).trans (Heap.get?_push_of_some _ e))
theorem zlF {Q:Unit→Shared→Prop}{vs:Array Value}{sl:Array (Option Value)}{dx:Addr}{mA:Str→Option Value}{ns:List Str}(X:K.In s.heap)(hx:s.heap.get? x=some ⟨.ref C,some dx,.fields vs,sl⟩)(hd:s.heap.Ns1 dx mA)(hp:zcY K C=true)
  (hs:findIn K (.ref C) "__setattr__" =some (some (.builtin "object.__setattr__"))) (ht:findIn K (.ref C) name=some none) (hw:Within mA ns) (hz:ns.length≤sizeLine)
  (h:∀h' tk,h'.Ns1 dx (fun y=>if y=name then some v else mA y)→Heap.SameBut dx s.heap h'→Q () {s with heap:=h',toks:=tk}):wpAny (model prog w) A (setAttr (.ref x) name v) Q E s:=by
 obtain ⟨od,es0,ep0,g1,g2⟩:=id hd
 have I:InstAt s.heap x ⟨.ref C,some dx,.fields vs,sl⟩ C (some od):=⟨hx,rfl,rfl,g1⟩
 obtain ⟨cd,hc,ho⟩:=any_some hp
 obtain ⟨o1,o2⟩:=Bool.and_eq_true_iff.mp ho
 refine set_plain X I hs (zij (s:={s with toks:=s.toks+1}) X I hp ht fun b=>?_)
 refine wpAny_bind (wpAny_pure (wpAny_bind (wpAny_bind (wpAny_loadPart hx (wpAny_bind (Looks.here (s:={s with toks:=s.toks+1}) (looks_clsIn X hc) ?_))))))
 rw [o2]
 refine wpAny_pure (a:=some dx) (wpAny_bind (wpAny_pure (wpAny_bind ?_)))
 refine wpAny_nsSet1 (s:={s with toks:=s.toks+1}) hd fun h' n2 sb=>?_
 obtain ⟨oD,esD,epD,q1,q2,q3⟩:=n2.count (Within.cons name v hw)
 refine wpAny_bind (wpAny_lookBehind q1 (by rw [q2];exact pastItsLine_dict (Nat.le_trans q3 (by rw [List.length_cons];omega))) ?_)
 exact wpAny_pure (h _ _ n2 sb)
theorem zl7 {Q:Value→Shared→Prop}{expr:Bool}{od:Obj}(X:K.In s.heap)(I:InstAt s.heap x ox C (some od))(hp:zcY K C=true)
  (hga:findIn K (.ref C) "__getattribute__" =some (some (.builtin "BaseException.__getattribute__"))) (hgn:findIn K (.ref C) "__getattr__" =some none)
  (hf:findObj K C (some od) name=some (.value v)) (hh:handedIn v=true) (h:Q v {s with toks:=s.toks+1}):wpAny (model prog w) A (getAttr (.ref x) name expr) Q E s:=by
 have isB:=zf9 (M:=model prog w) (T:= "BaseException") X I hp (by decide)
 obtain ⟨hp',g,d,t,os⟩:=s
 have L0:=I.type (M:=model prog w)
 have L1:=looks_findIn (M:=model prog w) X hga
 have L2:=looks_findIn (M:=model prog w) X hgn
 have L3:=looks_find (M:=model prog w) X I hf
 have FB:=PySem.F.attrBase_ValueError
 have bi:=FB.ga.bind (.ref x)
 have kd:builtinKind "BaseException.__getattribute__" =some .slot:=by decide+kernel
 have sp:splitId "BaseException.__getattribute__" =some ("BaseException","__getattribute__"):=by decide+kernel
 unfold getAttr getAttrBy
 refine wpAny_bind (wpAny_mkText (wpAny_holding (wpAny_bind (L0.at (wpAny_bind (L1.at ?_))))))
 have nb:(onTheHeap (Value.ref C) && Value.builtin "BaseException.__getattribute__" ==Value.builtin "object.__getattribute__")=false:=by
  rw [show (Value.builtin "BaseException.__getattribute__" ==Value.builtin "object.__getattribute__")=false from by decide+kernel,Bool.and_false]
 dsimp only
 rw [nb,if_neg Bool.false_ne_true]
 unfold getAttrByItsOwn
 refine wpAny_bind ?_
 show wpAny _ _ (typeLookup (.ref C) "__getattr__") _ _ _
 refine L2.at ?_
 have ne:(expr && onTheHeap (Value.builtin "BaseException.__getattribute__"))=false:=by cases expr <;> rfl
 unfold callGetattribute
 rw [ne,if_neg Bool.false_ne_true]
 unfold boundAndCalled
 refine wpAny_bind (wpAny_attempt (wpAny_holding ?_))
 rw [bi]
 refine wpAny_bind (wpAny_pure ?_)
 refine wpAny_call (codeAny_call_builtin FB.ga.plain PySem.F.entry_bexc_ga (@check_slot (model prog w) _ _ _ "BaseException.__getattribute__" "BaseException" "__getattribute__" (.ref x) [.str name t] [] _ kd sp isB (PySem.F.args_bexc_ga _ _) ?_))
 unfold Builtin.«object.__getattribute__»
 repeat (any_goals (first | assumption | with_reducible refine wpAny_bind (L0.at ?_) | with_reducible refine wpAny_bind (L3.at ?_) | wp_step))
 show wpAny _ _ (handedOut v) _ _ _
 rw [handedOut_of hh]
 exact wpAny_pure h
end
end Px
namespace L2
open PySem PySem.Spec PyProof.Rows Px
def exO (a C:Addr)(od:Option Addr)(fr:Bool):HO:=.ext fun h=>∃vs sl,h.get? a=some ⟨.ref C,od,.fields vs,sl⟩∧(fr=true→∃t,vs= #[.ref t,.none,.none,.none,.bool false,.none])
def xdO (a:Addr)(fs:List (Str ×V)):HO:=.ext fun h=>∃mA,h.Ns1 a mA∧(∀f,RelO (fs.lookup f) (mA f))∧PySem.Within mA (fs.map (·.1))
def del (H:Hp)(a:Addr):Hp:=fun b=>if b=a then none else H b
theorem zbM {H:Hp}{a:Addr}:del H a a=none:=by unfold del;rw [if_pos rfl]
theorem zbn {H:Hp}{a b:Addr}(h:b≠a):del H a b=H b:=by unfold del;rw [if_neg h]
theorem zdK {H:Hp}{a:Addr}{o:HO}(h:H a=none):del (upd H a o) a=H:=by
 funext b
 unfold del upd
 by_cases e:b=a
 ·rw [if_pos e,e,h]
 ·rw [if_neg e,if_neg e]
section
variable {P:Program}{w:World}{H H':Hp}{h h' h2:Heap}{a C:Addr}{o:HO}{fs ex fs':List Addr}{own:Addr→Prop}
theorem zfi {od:Option Addr}{fr:Bool}{vs:Array Value}{sl:Array (Option Value)}(e:h.get? a=some ⟨.ref C,od,.fields vs,sl⟩)(f:fr=true→∃t,vs= #[.ref t,.none,.none,.none,.bool false,.none]):zY P w H h a (exO a C od fr):=
 ⟨⟨vs,sl,e,f⟩,⟨_,e⟩,fun _ _ ⟨vs,sl,e,f⟩ k=>⟨vs,sl,k _ e,f⟩⟩
theorem zbs {od:Option Addr}{fr:Bool}(ok:HOk P w H h)(e:H a=some (exO a C od fr)):∃vs sl,h.get? a=some ⟨.ref C,od,.fields vs,sl⟩∧(fr=true→∃t,vs= #[.ref t,.none,.none,.none,.bool false,.none]):=
 (show zY P w H h a (exO a C od fr) from ok a _ e).1
theorem ziW {l:List (Str ×V)}{mA:Str→Option Value}(n:h.Ns1 a mA)(r:∀f,RelO (l.lookup f) (mA f))(wi:PySem.Within mA (l.map (·.1))):zY P w H h a (xdO a l):=
 ⟨⟨mA,n,r,wi⟩,let ⟨o,_,_,e,_⟩:=n;⟨o,e⟩,fun _ _ ⟨mA,n,r,wi⟩ k=>⟨mA,n.at k,r,wi⟩⟩
theorem zeY {l:List (Str ×V)}(ok:HOk P w H h)(e:H a=some (xdO a l)):∃mA,h.Ns1 a mA∧(∀f,RelO (l.lookup f) (mA f))∧PySem.Within mA (l.map (·.1)):=
 (show zY P w H h a (xdO a l) from ok a _ e).1
theorem HOk.track (x:HOk P w H h)(n:H a=none)(new:zY P w (upd H a o) h a o):HOk P w (upd H a o) h:=fun b u e=>by
 by_cases hb:b=a
 ·subst hb;rw [ze] at e;cases e;exact new
 ·rw [zj hb] at e
  exact (x b u e).stay (fun _ _ _ q=>q) (fun c q=>by rw [zj (zh q n)];exact q) fun c xs q=>by rw [zj (zh q n)];exact q
theorem Un.track (u:Un fs ex H H' h h')(n:H' a=none)(nw:∀ob,h.get? a=some ob→a∈ex∨H a≠none):Un fs ex H (upd H' a o) h h' where
 keep:=u.keep
 slot:=u.slot
 free:=fun b ob q m hx=>by
  rw [zj]
  ·exact u.free b ob q m hx
  ·intro e
   subst e
   rcases nw ob q with z | z
   ·exact hx z
   ·exact z m
 there:=u.there
 tups:=fun b xs q=>by rw [zj (zh (u.tups b xs q) n)];exact u.tups b xs q
 frzs:=fun b ob v q=>by rw [zj (zh (u.frzs b ob v q) n)];exact u.frzs b ob v q
 tbls:=fun b ps q=>by
  obtain ⟨m,e⟩:=u.tbls b ps q
  exact ⟨m,by rw [zj (zh e n)];exact e⟩
theorem HOk.drop {φ:Heap→Prop}(x:HOk P w H h)(e:H a=some (.ext φ)):HOk P w (del H a) h:=fun b u q=>by
 by_cases hb:b=a
 ·rw [hb,zbM] at q;cases q
 ·rw [zbn hb] at q
  exact (x b u q).stay (fun _ _ _ z=>z) (fun c z=>by rw [zbn (zaS z e (by intro y;cases y))];exact z) fun c xs z=>by rw [zbn (zaS z e (by intro y;cases y))];exact z
theorem Un.drop {φ:Heap→Prop}(u:Un fs ex H H' h h')(e:H' a=some (.ext φ)):Un fs ex H (del H' a) h h' where
 keep:=u.keep
 slot:=u.slot
 free:=fun b ob q m hx=>by
  by_cases hb:b=a
  ·rw [hb];exact zbM
  ·rw [zbn hb];exact u.free b ob q m hx
 there:=u.there
 tups:=fun b xs q=>by rw [zbn (zaS (u.tups b xs q) e (by intro y;cases y))];exact u.tups b xs q
 frzs:=fun b ob v q=>by rw [zbn (zaS (u.frzs b ob v q) e (by intro y;cases y))];exact u.frzs b ob v q
 tbls:=fun b ps q=>by
  obtain ⟨m,z⟩:=u.tbls b ps q
  exact ⟨m,by rw [zbn (zaS z e (by intro y;cases y))];exact z⟩
theorem Un.chg (u:Un fs ex H H' h h')(c:Chg2 fs' own h' h2)(hfs:∀b ob,h.get? b=some ob→b∈fs'→b∈fs)
  (nw:∀b,own b→h.get? b=none∨(H b≠none∧∃o',h2.get? b=some o')):Un fs ex H H' h h2:=by
 have no:∀b ob,h.get? b=some ob→H b=none→¬own b:=fun b ob q n z=>by
  rcases nw b z with y | y
  ·rw [y] at q;cases q
  ·exact y.1 n
 refine ⟨fun b ob q n hb hx=>c.keep b ob (u.keep b ob q n hb hx) (fun z=>hb (hfs b ob q z)) (no b ob q n),fun b ob q n hb hx=>?_,u.free,fun b ob q hx=>?_,u.tups,u.frzs,u.tbls⟩
 ·obtain ⟨sl,e⟩:=u.slot b ob q n hb hx
  by_cases z:b∈fs'
  ·obtain ⟨s2,e2⟩:=c.slot b _ e z (no b ob q n)
   exact ⟨s2,e2⟩
  ·exact ⟨sl,c.keep b _ e z (no b ob q n)⟩
 ·obtain ⟨o',e⟩:=u.there b ob q hx
  by_cases y:own b
  ·rcases nw b y with z | z
   ·rw [z] at q;cases q
   ·exact z.2
  ·by_cases z:b∈fs'
   ·obtain ⟨s2,e2⟩:=c.slot b _ e z y
    exact ⟨_,e2⟩
   ·exact ⟨_,c.keep b _ e z y⟩
theorem HOk.chg (x:HOk P w H h)(c:Chg2 fs' own h h2)(n1:∀b,own b→H b=none)(n2:∀b∈fs',H b=none):HOk P w H h2:=fun b u e=>by
 have k:∀c' v,(∃z,H c'=some z)→h.get? c'=some v→h2.get? c'=some v:=fun c' v ⟨z,hz⟩ q=>
  c.keep c' v q (fun m=>by rw [n2 c' m] at hz;cases hz) (fun m=>by rw [n1 c' m] at hz;cases hz)
 refine (x b u e).stay (fun c' v hc q=>k c' v ?_ q) (fun _ q=>q) fun _ _ q=>q
 rcases hc with z | z
 ·rw [z];exact ⟨_,e⟩
 ·exact ⟨_,z⟩
end
section
variable {X:Cx}{pins:List (Addr ×Obj)}{σ:St}{H:Hp}{s:Shared}{h':Heap}
theorem zY.thereN {P:Program}{w:World}{H:Hp}{h:Heap}{a:Addr}{u:HO}(x:zY P w H h a u):∃ob,h.get? a=some ob:=by
 cases u with
 | lst xs=>obtain ⟨_,_,_,_,e⟩:=x;exact ⟨_,e⟩
 | tup xs=>obtain ⟨_,_,_,ob,e,_⟩:=x;exact ⟨_,e⟩
 | dK kvs=>obtain ⟨_,_,_,_,o,_,_,e,_⟩:=x;exact ⟨_,e⟩
 | dT kvs=>obtain ⟨_,_,_,_,o,_,_,e,_⟩:=x;exact ⟨_,e⟩
 | set S n=>obtain ⟨o,_,_,_,e,_⟩:=x;exact ⟨_,e⟩
 | ins C dx fs=>obtain ⟨_,_,_,e,_⟩:=x;exact ⟨_,e⟩
 | own y=>exact x
 | xd fs=>obtain ⟨_,⟨_,_,_,e,_⟩,_⟩:=x;exact ⟨_,e⟩
 | rng lo hi=>obtain ⟨_,_,_,e⟩:=x;exact ⟨_,e⟩
 | frz ob u=>obtain ⟨e,_⟩:=x;exact ⟨_,e⟩
 | tbl ps=>exact ⟨_,(show h.get? a=some _ from x)⟩
 | met f y=>exact ⟨_,(show h.get? a=some _ from x)⟩
 | ext φ=>exact x.2.1
theorem HOk.noneN {P:Program}{w:World}{H:Hp}{h:Heap}{a:Addr}(x:HOk P w H h)(n:h.get? a=none):H a=none:=by
 cases q:H a with
 | none=>rfl
 | some u=>
  obtain ⟨ob,z⟩:=(x a u q).thereN
  rw [n] at z;cases z
theorem Inv.laidN {a:Addr}{o:HO}{t':Nat}(I:Inv X pins σ H s)(k:∀b u,s.heap.get? b=some u→h'.get? b=some u)(hp:s.heap.get? a=none)(new:zY X.prog X.w (upd H a o) h' a o):
  Inv X pins σ (upd H a o) {s with heap:=h',toks:=t'}:=by
 have n:H a=none:=I.hok.noneN hp
 exact I.un ((Un.kept k).track n fun ob q=>by rw [hp] at q;cases q) ((I.hok.kept k).track n new)
end
def CX1 (P:Program)(w:World):CXT:=fun outer H s E e s'=>∃(ea:Addr) (cls:Value) (od:Option Addr) (H':Hp) (T:Addr),e=.ref ea∧s'.os=s.os∧AllBare s'.gens∧Un (frs outer) [] H H' s.heap s'.heap∧HOk P w H' s'.heap∧
 Tb s'.heap ea cls od T .none∧(s.heap.get? ea=none∨H ea≠none)∧s.heap.get? T=none∧H' ea=none∧H' T=none∧E cls od H'
theorem zbS {fs ex:List Addr}{H H':Hp}{h h':Heap}{b:Addr}(u:Un fs ex H H' h h')(hx:b∉ex)(n:h'.get? b=none):h.get? b=none:=by
 cases q:h.get? b with
 | none=>rfl
 | some o=>
  obtain ⟨o',e⟩:=u.there b o q hx
  rw [n] at e;cases e
section
variable {P:Program}{w:World}{K:PySem.W.Frag}{mg:Str→Option Value}{base:Heap}{N:List Str}{qual:Str}{scope:Scope}{f:Addr}{cd:Value}{A:Around}{outer:List Env}{s₀:Shared}{H₀:Hp}{E:XK}
def zfQ (X:Cx)(E:XK):Prop:=∀(pins:List (Addr ×Obj)) (σ:St) (H:Hp) (s:Shared) (e C:Addr) (od:Option Addr),Inv X pins σ H s→H e=some (exO e C od true)→E (.ref C) od (del H e)→X.xe (.ref e) s
theorem zcx:zfQ (cxOf (CX1 P w) P w K mg base N qual scope f cd A outer s₀ H₀ E) E:=by
 intro pins σ H s e C od I he q
 obtain ⟨vs,sl,ge,fr⟩:=zbs I.hok he
 obtain ⟨t,rfl⟩:=fr rfl
 show wpAny (model P w) (A.deeper _) (leaving _ (.ref e)) _ _ s
 refine zlt (base:=base) I.ok.frames I.stack rfl ge rfl rfl fun h' T' z tb c=>?_
 have nT:s.heap.get? T'=none:=Heap.get?_none_of_le z
 have old:s₀.heap.get? e=none∨H₀ e≠none:=by
  cases q1:s₀.heap.get? e with
  | none=>exact .inl rfl
  | some ob=>
   refine .inr fun n=>?_
   have:=I.base.free e ob q1 n (by intro z;cases z)
   rw [he] at this;cases this
 have fr2:∀b∈frs (envOfC qual scope s₀.heap.objs.size f cd::outer),H b=none:=I.stkFree
 have te:∃o',h'.get? e=some o':=let ⟨oe,_,_,_,y,_⟩:=tb;⟨oe,y⟩
 refine ⟨e,.ref C,od,del H e,T',rfl,I.os,I.bare,?_,?_,tb,old,zbS I.base (by intro z;cases z) nT,zbM,?_,q⟩
 ·refine (I.base.drop he).chg (fs':=frs (envOfC qual scope s₀.heap.objs.size f cd::outer)) c (fun b ob q1 q2=>?_) fun b y=>?_
  ·have lt:=Heap.lt_size q1
   rcases List.mem_cons.mp (I.stkSub b q2) with y | y
   ·exact absurd lt (by rw [y];exact Nat.not_lt.mpr (Nat.le_refl _))
   ·exact y
  ·subst y
   rcases old with y | y
   ·exact .inl y
   ·exact .inr ⟨y,te⟩
 ·refine (I.hok.drop he).chg c (fun b y=>by rw [y];exact zbM) fun b y=>?_
  by_cases hb:b=e
  ·rw [hb];exact zbM
  ·rw [zbn hb];exact fr2 b y
 ·have:H T'=none:=I.hok.fresh z
  by_cases hb:T'=e
  ·rw [hb];exact zbM
  ·rw [zbn hb];exact this
def zca (CX:CXT)(X:Cx)(E:St→XK):Prop:=∀(pins:List (Addr ×Obj)) (σ:St) (H:Hp) (s:Shared) (e:Value) (s':Shared),Inv X pins σ H s→CX X.stack H s (E σ) e s'→X.xe e s'
theorem zE:zby (CX1 P w) (cxOf (CX1 P w) P w K mg base N qual scope f cd A outer s₀ H₀ E) E:=by
 intro pins σ H s e s' I0 hc
 obtain ⟨ea,cls,od,H',T,rfl,os,bare,un,hok,tb,old,nT,u1,u2,q⟩:=hc
 have I:=I0.call' os un hok bare (fun b z=>nomatch z)
 show wpAny (model P w) (A.deeper _) (leaving _ (.ref ea)) _ _ s'
 refine zls (base:=base) I.ok.frames I.stack rfl tb fun h' T' z tb' c=>?_
 have nT':s'.heap.get? T'=none:=Heap.get?_none_of_le z
 have old':s₀.heap.get? ea=none∨H₀ ea≠none:=by
  cases q1:s₀.heap.get? ea with
  | none=>exact .inl rfl
  | some ob=>
   refine .inr fun n=>?_
   rcases old with y | y
   ·have y':s₀.heap.get? ea=none:=zbS I0.base (by intro z;cases z) y
    rw [y'] at q1;cases q1
   ·exact y (I0.base.free ea ob q1 n (by intro z;cases z))
 have te:∃o',h'.get? ea=some o':=let ⟨oe,_,_,_,y,_⟩:=tb';⟨oe,y⟩
 have n0:s₀.heap.get? T=none:=zbS I0.base (by intro z;cases z) nT
 refine ⟨ea,cls,od,H',T',rfl,I.os,I.bare,?_,?_,tb',old',zbS I.base (by intro z;cases z) nT',u1,hok.fresh z,q⟩
 ·refine I.base.chg (fs':=frs (envOfC qual scope s₀.heap.objs.size f cd::outer)) c (fun b ob q1 q2=>?_) fun b y=>?_
  ·have lt:=Heap.lt_size q1
   rcases List.mem_cons.mp (I.stkSub b q2) with y | y
   ·exact absurd lt (by rw [y];exact Nat.not_lt.mpr (Nat.le_refl _))
   ·exact y
  ·rcases y with y | y
   ·subst y
    rcases old' with y | y
    ·exact .inl y
    ·exact .inr ⟨y,te⟩
   ·subst y;exact .inl n0
 ·refine hok.chg c (fun b y=>?_) I.stkFree
  rcases y with y | y
  ·rw [y];exact u1
  ·rw [y];exact u2
end
end L2
namespace L2
open PySem PySem.Spec PyProof.Rows Px
structure XCls (K:PySem.W.Frag)(C:Addr):Prop where
 q:xIn K C=true
 ov:zcY K C=true
 sa:PySem.W.findIn K (.ref C) "__setattr__" =some (some (.builtin "object.__setattr__"))
 ga:PySem.W.findIn K (.ref C) "__getattribute__" =some (some (.builtin "BaseException.__getattribute__"))
 gn:PySem.W.findIn K (.ref C) "__getattr__" =some none
 kp:PySem.W.keepIn K (.ref C)=true
theorem XCls.hd {K:PySem.W.Frag}{C:Addr}(c:XCls K C):PySem.W.hasDictIn K C=true:=by
 obtain ⟨cd,hc,ho⟩:=PySem.W.any_some c.ov
 unfold PySem.W.hasDictIn
 rw [hc]
 exact (Bool.and_eq_true_iff.mp ho).2
def tExc (C:Addr)(t:TA):TE:=fun σ H Q=>t σ H fun vs H1=>vs.length≤sizeLine∧∀e,H1 e=none→Q (.ref e) (upd H1 e (exO e C none true))
def zkJ (C:Addr)(sp:Sp)(t:TA):TE:=fun σ H Q=>t σ H fun vs H1=>vs.length≤sizeLine∧∀x,H1 x=none→sp (.ref x::vs) (upd H1 x (exO x C none true)) (fun v H2=>v=.non∧Q (.ref x) H2) E0
section
variable {X:Cx}{k:Nat}{f C:Addr}{fd:FuncData}{ps:List Str}{sp:Sp}{x:Str}{p pos:Pos}{e:Expr}{es:List Expr}{t:TA}
theorem zlb (c:XCls X.K C)(hq:PySem.W.excIn X.K C bmV "ValueError.__new__" =true) (hg:Gl X x) (hm:X.mg x=some (.ref C)) (ha:PA X (e::es) t)
  (hdb:(x==("__debug__" :Str))=false:=by decide) (he:starEach (e::es) X.env=(false,eval e X.env)::starEach es X.env:=by rfl) (hpl:(backTo pos (starEach es X.env)).any (·.1)=false:=by rfl):
  PE X (.Call (.Name x p) (e::es) [] pos) (tExc C t):=by
 intro pins s σ H Q I h
 refine wpAny_Call_Name_kw (za8 I hg hm ?_ hdb)
 refine PySem.W.callWith_K (h₀:=X.base) I.ok.mod.kin c.kp (thn (ha pos pins s σ H _ I h) fun us s1 ⟨vs,H1,I1,r,z,q⟩=>⟨I1.kIn,?_⟩) he hpl
 refine zgC I1.kIn hq (fun h' ea mk=>?_) (show us.length≤sizeLine by rw [←r.length];exact z)
 obtain ⟨t,ge,nt,gt⟩:=mk.there
 exact ⟨.ref ea,_,I1.laidN (t':=s1.toks) mk.keeps mk.new (zfi ge fun _=>⟨t,rfl⟩),rfl,q ea (I1.hok.noneN mk.new)⟩
theorem zki (c:XCls X.K C)(hi:PySem.W.findIn X.K (.ref C) "__init__" =some (some (.ref f))) (hf:PySem.W.isFn X.K (.ref f)=true) (F:FnOk X.prog X.w X.K X.mg X.base CX0 k f fd ps sp) (hr:Room (k+1) X.A) (hb:Binds X.K fd ps [])
  (hg:Gl X x) (hm:X.mg x=some (.ref C)) (ha:PA X (e::es) t)
  (hdb:(x==("__debug__" :Str))=false:=by decide) (he:starEach (e::es) X.env=(false,eval e X.env)::starEach es X.env:=by rfl) (hpl:(backTo pos (starEach es X.env)).any (·.1)=false:=by rfl):
  PE X (.Call (.Name x p) (e::es) [] pos) (zkJ C sp t):=by
 intro pins s σ H Q I h
 refine wpAny_Call_Name_kw (za8 I hg hm ?_ hdb)
 refine PySem.W.callWith_K (h₀:=X.base) I.ok.mod.kin c.kp (thn (ha pos pins s σ H _ I h) fun us s1 ⟨vs,H1,I1,r,z,q⟩=>⟨I1.kIn,?_⟩) he hpl
 have I2:Inv X pins σ (upd H1 (s1.heap.objs.size+1) (exO (s1.heap.objs.size+1) C none true)) {s1 with heap:=za4 s1.heap C us}:=
  I1.laidN (t':=s1.toks) (fun _ _ y=>zb2 y) (Heap.get?_none_of_le (Nat.le_succ _)) (zfi zd3 fun _=>⟨_,rfl⟩)
 have hq:=q (s1.heap.objs.size+1) (I1.hok.fresh (Nat.le_succ _))
 have r2:Vals (V.ref (s1.heap.objs.size+1)::vs) (Value.ref (s1.heap.objs.size+1)::us):=.cons rfl r
 have hl:((Value.ref (s1.heap.objs.size+1)::us)++ []).length=ps.length:=by
  rw [List.append_nil,←r2.length];exact F.len _ _ _ _ hq
 have hz:us.length≤sizeLine:=by rw [←r.length];exact z
 obtain ⟨h1,g1,d1,t1,o1⟩:=s1
 refine zhr I1.kIn c.q hi (beq_iff_eq.mp hf) ?_ hz
 have hbb:=hb _ (Value.ref (h1.objs.size+1)::us) I2.kIn hl
 rw [List.append_nil] at hbb
 refine wpAny_call (codeAny_mono (F.run _ X.stack _ _ ⟨Value.ref (h1.objs.size+1)::us,[]⟩ (Value.ref (h1.objs.size+1)::us) _ _ E0 (hr.make C us []) (I2.env0.make C us []) hbb r2 hq) fun r s' hq'=>?_)
 cases r with
 | error e=>exact False.elim hq'
 | ok fl=>
  cases fl with
  | ret u=>
   obtain ⟨v,H',I3,rv,ev,q3⟩:=I2.after hq'
   subst ev
   exact ⟨rv,⟨V.ref (h1.objs.size+1),H',I3,rfl,q3⟩⟩
  | next=>exact False.elim hq'
  | brk=>exact False.elim hq'
  | cont=>exact False.elim hq'
end
def zlg (K:PySem.W.Frag)(te:TE)(E:XK):TS:=fun D σ H=>te σ H fun v H1=>∃e C od,v=.ref e∧H1 e=some (exO e C od true)∧xIn K C=true∧E (.ref C) od (del H1 e)
theorem zcd {X:Cx}{E:XK}{ex:Expr}{te:TE}{pos:Pos}(hx:zfQ X E)(hc:X.calm=true)(he:PE X ex te):PS X (.Raise (some ex) none pos) (zlg X.K te E):=by
 intro pins s σ H D I h
 rw [arm_exec_Raise]
 refine wpAny_bind (wpAny_standAt ?_)
 refine zgg (K:=X.K) (I.ok.hd hc) ?_
 refine wpAny_bind (wpAny_mono (he pins s σ H _ I h) (fun v s1 hv=>wpAny_bind (wpAny_standAt (wpAny_pure ?_))) fun _ _ z=>z)
 obtain ⟨y,H1,I1,ry,ea,C,od,rfl,hea,qC,hE⟩:=hv
 obtain rfl:v=Value.ref ea:=ry
 obtain ⟨vs,sl,ge,fr⟩:=zbs I1.hok hea
 obtain ⟨t,rfl⟩:=fr rfl
 exact ⟨ea,C,t,_,rfl,I1.kIn,qC,ge,rfl,rfl,hx pins σ H1 s1 ea C od I1 hea hE⟩
def sXF1 (K:PySem.W.Frag)(ta tv:TE)(f:Str):TS:=fun D σ H=>tv σ H fun y H1=>ta σ H1 fun x H2=>∃a C fr,x=.ref a∧H2 a=some (exO a C none fr)∧XCls K C∧zy K C f∧
 ∀d,H2 d=none→d≠a→D.nx σ (upd (upd H2 d (xdO d [(f,y)])) a (exO a C (some d) fr))
def sXF2 (K:PySem.W.Frag)(ta tv:TE)(f:Str):TS:=fun D σ H=>tv σ H fun y H1=>ta σ H1 fun x H2=>∃a C fr d l,x=.ref a∧H2 a=some (exO a C (some d) fr)∧H2 d=some (xdO d l)∧d≠a∧XCls K C∧zy K C f∧l.length < 1000∧
 D.nx σ (upd H2 d (xdO d (putF f y l)))
def tXG (K:PySem.W.Frag)(ta:TE)(f:Str):TE:=fun σ H Q=>ta σ H fun x H1=>∃a C fr d l v,x=.ref a∧H1 a=some (exO a C (some d) fr)∧H1 d=some (xdO d l)∧XCls K C∧zy K C f∧l.lookup f=some v∧Q v H1
section
variable {X:Cx}{o e value:Expr}{f:Str}{pos pos':Pos}{ta tv:TE}
theorem zli (ha:PE X o ta)(hv:PE X value tv)(hs:swapsWith value (some (.Attribute o f pos')) pos.line X.env=pure false):PS X (.Assign [.Attribute o f pos'] value pos) (sXF1 X.K ta tv f):=by
 intro pins s σ H D I h
 refine plainObj_wpAny_Assign_Attribute (thn (hv pins s σ H _ I h) fun u s1 ⟨y,H1,I1,ry,q⟩=>thn (ha pins s1 σ H1 _ I1 q) fun ov s2 ⟨x,H2,I2,rx,a,C,fr,ex,ea,c,n,q2⟩=>?_) hs
 subst ex
 obtain rfl:ov=Value.ref a:=rx
 obtain ⟨vs,sl,ge,hfr⟩:=zbs I2.hok ea
 refine zlC I2.kIn ge c.ov c.sa n fun h' tk gx nd sz kp=>?_
 have nd0:H2 s2.heap.objs.size=none:=I2.hok.fresh (Nat.le_refl _)
 have da:s2.heap.objs.size≠a:=Ne.symm (Nat.ne_of_lt (Heap.lt_size ge))
 have na:∀b,H2 b=none→b≠a:=fun b z y=>by rw [y,ea] at z;cases z
 refine ⟨σ,_,?_,q2 _ nd0 da⟩
 refine I2.un (h':=h') (t':=tk) ⟨fun b ob g z _ _=>kp b ob (na b z) g,fun b ob g z _ _=>⟨ob.slots,kp b ob (na b z) g⟩,fun b ob g z _=>?_,fun b ob g _=>?_,fun b xs g=>?_,fun b ob v g=>?_,fun b ps g=>?_⟩ fun b w g=>?_
 ·rw [zj (na b z),zj (Nat.ne_of_lt (Heap.lt_size g))];exact z
 ·by_cases y:b=a
  ·rw [y];exact ⟨_,gx⟩
  ·exact ⟨_,kp b ob y g⟩
 ·rw [zj (zaS g ea (by intro y;cases y)),zj (zh g nd0)];exact g
 ·rw [zj (zaS g ea (by intro y;cases y)),zj (zh g nd0)];exact g
 ·exact ⟨#[],by rw [zj (zaS g ea (by intro y;cases y)),zj (zh g nd0),g];simp⟩
 ·by_cases yy:b=a
  ·subst yy
   rw [ze] at g;cases g
   exact zfi gx hfr
  ·rw [zj yy] at g
   by_cases y2:b=s2.heap.objs.size
   ·subst y2
    rw [ze] at g;cases g
    refine ziW nd (fun j=>?_) fun j hj=>?_
    ·show RelO ([(f,y)].lookup j) _
     by_cases e:j=f
     ·have hb:(j==f)=true:=beq_iff_eq.mpr e
      rw [if_pos e]
      simp only [List.lookup,hb]
      assumption
     ·have hb:(j==f)=false:=beq_eq_false_iff_ne.mpr e
      rw [if_neg e]
      simp only [List.lookup,hb]
      exact True.intro
    ·by_cases e:j=f
     ·rw [e];exact List.mem_cons_self
     ·rw [if_neg e] at hj;exact absurd rfl hj
   ·rw [zj y2] at g
    refine (I2.hok b w g).stay (fun c' v hc gg=>kp c' v ?_ gg) (fun c' z=>?_) fun c' xs z=>?_
    ·rcases hc with z | z
     ·rw [z];exact yy
     ·exact zaS z ea (by intro y;cases y)
    ·rw [zj (zaS z ea (by intro y;cases y)),zj (zh z nd0)];exact z
    ·rw [zj (zaS z ea (by intro y;cases y)),zj (zh z nd0)];exact z
theorem zln (ha:PE X o ta)(hv:PE X value tv)(hs:swapsWith value (some (.Attribute o f pos')) pos.line X.env=pure false):PS X (.Assign [.Attribute o f pos'] value pos) (sXF2 X.K ta tv f):=by
 intro pins s σ H D I h
 refine plainObj_wpAny_Assign_Attribute (thn (hv pins s σ H _ I h) fun u s1 ⟨y,H1,I1,ry,q⟩=>thn (ha pins s1 σ H1 _ I1 q) fun ov s2 ⟨x,H2,I2,rx,a,C,fr,d,l,ex,ea,ed,da,c,n,ll,q2⟩=>?_) hs
 subst ex
 obtain rfl:ov=Value.ref a:=rx
 obtain ⟨vs,sl,ge,hfr⟩:=zbs I2.hok ea
 obtain ⟨mA,ns,rl,wi⟩:=zeY I2.hok ed
 have hz:(l.map (·.1)).length≤sizeLine:=by rw [List.length_map,sizeLine_eq];omega
 refine zlF I2.kIn ge ns c.ov c.sa n wi hz fun h' tk nd sb=>?_
 have hd:∃o,h'.get? d=some o:=let ⟨o,_,_,e',_⟩:=nd;⟨o,e'⟩
 refine ⟨σ,_,I2.write (x:=d) (e:=d) (t':=tk) (by rw [ed];exact True.intro) (.inl rfl) (fun b w hb z=>(sb.2 b hb).trans z) hd (ziW nd (fun g=>?_) fun g hg=>?_),q2⟩
 ·rw [zct]
  by_cases z:g=f
  ·rw [if_pos z,if_pos z];exact ry
  ·rw [if_neg z,if_neg z];exact rl g
 ·by_cases z:g=f
  ·rw [z];exact (zbO f y l).1
  ·refine (zbO f y l).2 g (wi g fun w=>hg ?_)
   show (if g=f then some u else mA g)=none
   rw [if_neg z];exact w
theorem zms (he:PE X e ta)(hb:attributeBase e f X.env (eval e X.env)=eval e X.env):PE X (.Attribute e f pos) (tXG X.K ta f):=by
 intro pins s σ H Q I h
 refine zhg hb (thn (he pins s σ H _ I h) fun u s1 ⟨x,H1,I1,rx,a,C,fr,d,l,v,ex,ea,ed,c,n,lk,q⟩=>?_)
 subst ex
 obtain rfl:u=Value.ref a:=rx
 obtain ⟨vs,sl,ge,hfr⟩:=zbs I1.hok ea
 obtain ⟨mA,ns,rl,wi⟩:=zeY I1.hok ed
 obtain ⟨w,hw,rw'⟩:=RelO.some_of (v:=v) (o:=mA f) (by rw [←lk];exact rl f)
 obtain ⟨ob,hob,hl⟩:=zc9 ns
 have J:PySem.W.InstAt s1.heap a ⟨.ref C,some d,.fields vs,sl⟩ C (some ob):=⟨ge,rfl,rfl,hob⟩
 exact zl7 I1.kIn J c.ov c.ga c.gn (PySem.W.findObj_own c.hd n rfl (by rw [hl,hw])) (zeC rw') ⟨v,H1,I1.tok _,rw',q⟩
end
def ziY (sp:Sp)(E:St→XK)(t:TA):TE:=fun σ H Q=>t σ H fun vs H1=>sp vs H1 Q (E σ)
def znd (C:Addr)(m:Str)(sp:Sp)(E:St→XK)(ta:TE)(t:TA):TE:=fun σ H Q=>ta σ H fun x H1=>∃a dx fs,x=.ref a∧H1 a=some (.ins C dx fs)∧fs.lookup m=none∧t σ H1 fun vs H2=>sp (x::vs) H2 Q (E σ)
section
variable {X:Cx}{CX:CXT}{k:Nat}{f C:Addr}{fd:FuncData}{ps:List Str}{sp:Sp}{E:St→XK}{x m:Str}{p pos apos:Pos}{e o:Expr}{es:List Expr}{ta:TE}{t:TA}
theorem zjL {pins:List (Addr ×Obj)}{σ:St}{H:Hp}{s:Shared}{Q:VK}{us:List Value}{vs:List V}(F:FnOk X.prog X.w X.K X.mg X.base CX k f fd ps sp)(hr:Room k X.A)(hb:Binds X.K fd ps [])(hx:zca CX X E)
  (I:Inv X pins σ H s) (r:Vals vs us) (h:sp vs H Q (E σ)):wpAny (model X.prog X.w) X.A (call (.ref f) us) (EP X pins σ Q) X.xe s:=by
 have hl:(us++ []).length=ps.length:=by rw [List.append_nil,←r.length];exact F.len _ _ _ _ h
 have hbb:=hb s us I.kIn hl
 rw [List.append_nil] at hbb
 refine wpAny_call (codeAny_mono (F.run X.A X.stack s H ⟨us,[]⟩ us vs Q (E σ) hr I.env0 hbb r h) fun r s' hq=>?_)
 cases r with
 | error e=>exact hx pins σ H s e s' I hq
 | ok fl=>
  cases fl with
  | ret u=>exact I.after hq
  | next=>exact False.elim hq
  | brk=>exact False.elim hq
  | cont=>exact False.elim hq
theorem ziv (F:FnOk X.prog X.w X.K X.mg X.base CX k f fd ps sp)(hr:Room k X.A)(hg:Gl X x)(hm:X.mg x=some (.ref f))(hk:PySem.W.keepIn X.K (.ref f)=true)(hb:Binds X.K fd ps [])(hx:zca CX X E)
  (ha:PA X (e::es) t) (hdb:(x==("__debug__" :Str))=false:=by decide) (he:starEach (e::es) X.env=(false,eval e X.env)::starEach es X.env:=by rfl) (hpl:(backTo pos (starEach es X.env)).any (·.1)=false:=by rfl):
  PE X (.Call (.Name x p) (e::es) [] pos) (ziY sp E t):=by
 intro pins s σ H Q I h
 refine wpAny_Call_Name_kw (za8 I hg hm ?_ hdb)
 refine PySem.W.callWith_K (h₀:=X.base) I.ok.mod.kin hk (thn (ha pos pins s σ H _ I h) fun us s1 ⟨vs,H1,I1,r,q⟩=>⟨I1.kIn,?_⟩) he hpl
 exact zjL F hr hb hx I1 r q
end
theorem Fun.okX {P:Program}{w:World}{K:PySem.W.Frag}{mg:Str→Option Value}{base:Heap}{x qual:Str}{st:Stmt}{f:Addr}{fd:FuncData}{N ps:List Str}{k:Nat}{sp:Sp}(F:Fun K x qual st f fd)(S:zm N ps (zg st))(len:∀vs H Q E,sp vs H Q E→vs.length=ps.length)
  (hbody:∀(cdv:Value) (A:Around) (outer:List Env) (s:Shared) (H:Hp) (vs:List V) (Q:VK) (E:XK),Room k (A.deeper (envOfC qual (zg st) s.heap.objs.size f cdv))→sp vs H Q E→
   ∃t,PSs (cxOf (CX1 P w) P w K mg base N qual (zg st) f cdv A outer s H E) (zN st) t∧t {nx:=fun _ H'=>Q .non H',rt:=Q} (start N vs) H):FnOk P w K mg base (CX1 P w) (k+1) f fd ps sp:=by
 obtain ⟨oc,od,kV,doc,pm,an,cdv,ct,osl,rfl,lk,hcd⟩:=F.ex
 exact zkY lk hcd S len fun A outer s H vs Q E hr hsp=>hbody cdv A outer s H vs Q E hr hsp
abbrev Cx.tried (X:Cx)(xe:Value→Shared→Prop)(pn:List (Addr ×Obj)):Cx:={X with xe:=xe,pn:=pn}
abbrev Cx.suite (X:Cx)(e:Addr):Cx:={X with A:=X.A.mark (some (.ref e)),calm:=false,xe:=fun _ _=>False}
section
variable {X:Cx}{pins pins':List (Addr ×Obj)}{σ:St}{H:Hp}{s:Shared}{xe:Value→Shared→Prop}
theorem Inv.tried (I:Inv X pins σ H s)(xe:Value→Shared→Prop):Inv (X.tried xe (X.pn++pins)) [] σ H s:=
 ⟨⟨I.ok.mod,I.ok.kind,I.ok.glob,I.ok.blt,I.ok.above,I.ok.inj,I.ok.has,I.ok.cab,I.ok.hd,I.ok.frames,I.ok.stk,I.ok.exf,I.ok.bs,I.ok.bsz,I.ok.noex,I.ok.exfs,I.ok.funs,I.ok.frf⟩,
  I.os,I.bare,I.base,I.loc,I.cell,I.free,I.freeC,fun p hp=>I.pin p (by simpa using hp),I.hok,I.len⟩
theorem Inv.untried (I:Inv (X.tried xe (X.pn++pins)) pins' σ H s):Inv X pins σ H s:=
 ⟨⟨I.ok.mod,I.ok.kind,I.ok.glob,I.ok.blt,I.ok.above,I.ok.inj,I.ok.has,I.ok.cab,I.ok.hd,I.ok.frames,I.ok.stk,I.ok.exf,I.ok.bs,I.ok.bsz,I.ok.noex,I.ok.exfs,I.ok.funs,I.ok.frf⟩,
  I.os,I.bare,I.base,I.loc,I.cell,I.free,I.freeC,fun p hp=>I.pin p (List.mem_append_left _ hp),I.hok,I.len⟩
theorem Inv.suite (I:Inv X pins σ H s)(e:Addr):Inv (X.suite e) pins σ H s:=
 ⟨⟨I.ok.mod,I.ok.kind,I.ok.glob,I.ok.blt,I.ok.above,I.ok.inj,I.ok.has,I.ok.cab,(fun z=>nomatch z),I.ok.frames,I.ok.stk,I.ok.exf,I.ok.bs,I.ok.bsz,I.ok.noex,I.ok.exfs,I.ok.funs,I.ok.frf⟩,
  I.os,I.bare,I.base,I.loc,I.cell,I.free,I.freeC,I.pin,I.hok,I.len⟩
theorem Inv.unsuite {e:Addr}(ok:X.Ok)(I:Inv (X.suite e) pins σ H s):Inv X pins σ H s:=
 ⟨ok,I.os,I.bare,I.base,I.loc,I.cell,I.free,I.freeC,I.pin,I.hok,I.len⟩
theorem zae {M:Model}{A:Around}{E:Value→Shared→Prop}{i:Nat}{n:Str}{pos:Pos}{Q:Unit→Shared→Prop}(I:Inv X pins σ H s)(hN:X.N.Nodup)(hi:X.N[i]? =some n)(hk:X.env.scope.names.lookup n=some .local)
  (h:∀s',Inv X pins (σ.set i none) H s'→Q () s'):wpAny M A (do bindName X.env n .none;unbindBehindTheSuite X.env n pos) Q E s:=by
 obtain ⟨m,hn,hl⟩:=id I.loc
 have cl:(X.env.scope.kind==.class || (X.env.scope.kind==.module && X.env.locals !=X.env.globals))=false:=by rw [I.ok.kind];rfl
 refine wpAny_nameGoes_keeps hk hn cl fun h' v hn' sb=>?_
 obtain ⟨oL,_,_,gL,_⟩:=id hn
 have ol:∀b ob,X.s₀.heap.get? b=some ob→b≠X.env.locals:=fun b ob g=>Nat.ne_of_lt (Nat.lt_of_lt_of_le (Heap.lt_size g) I.ok.above)
 refine h _ ⟨I.ok,I.os,I.bare,⟨fun b ob g z hb hx=>(sb.2 b (ol b ob g)).trans (I.base.keep b ob g z hb hx),fun b ob g z hb hx=>?_,I.base.free,fun b ob g hx=>?_,I.base.tups,I.base.frzs,I.base.tbls⟩,
  ⟨_,hn',fun j y v' e1 e2 e3=>?_⟩,fun y c e=>?_,I.free,I.freeC,fun p hp=>?_,fun b w g=>?_,by simpa using I.len⟩
 ·obtain ⟨sl,g1⟩:=I.base.slot b ob g z hb hx
  exact ⟨sl,(sb.2 b (ol b ob g)).trans g1⟩
 ·obtain ⟨o',g1⟩:=I.base.there b ob g hx
  exact ⟨o',(sb.2 b (ol b ob g)).trans g1⟩
 ·have hj:j≠i:=fun z=>by
   subst z
   have:j < σ.length:=by rw [I.len];exact (List.getElem?_eq_some_iff.mp hi).1
   rw [List.getElem?_set_self this] at e2
   cases e2
  rw [List.getElem?_set_ne (Ne.symm hj)] at e2
  obtain ⟨u',r',q⟩:=hl j y v' e1 e2 e3
  refine ⟨u',r',?_⟩
  rcases q with ⟨k,e⟩ | ⟨k,c,e,z⟩
  ·refine .inl ⟨k,?_⟩
   have:y≠n:=fun z=>hj (zdQ hN e1 (z ▸ hi))
   show (if y=n then v else m y)=some u'
   rw [if_neg this];exact e
  ·exact .inr ⟨k,c,e,z.sameBut sb (I.cne y c e)⟩
 ·obtain ⟨w',z⟩:=I.cell y c e
  exact ⟨w',z.sameBut sb (I.cne y c e)⟩
 ·obtain ⟨g,z,ne,nf,d⟩:=I.pin p hp
  exact ⟨(sb.2 p.1 ne).trans g,z,ne,nf,d⟩
 ·refine (I.hok b w g).stay (fun c v2 hc q=>(sb.2 c fun z=>?_).trans q) (fun _ q=>q) fun _ _ q=>q
  subst z
  rcases hc with y | y
  ·rw [←y,I.free] at g;cases g
  ·rw [I.free] at y;cases y
end
def Ends.less (D:Ends)(i:Nat):Ends:={nx:=fun σ H=>D.nx (σ.set i none) H,rt:=D.rt,bk:=fun σ H=>D.bk (σ.set i none) H,ct:=fun σ H=>D.ct (σ.set i none) H}
def zg0 (K:PySem.W.Frag)(cv:Value)(i:Nat)(ts:TS)(D:Ends):St→XK:=fun σ cls od H'=>∃C,cls=.ref C∧PySem.W.exmOne K (.ref C) cv=some true∧
 ∀e,H' e=none→ts (D.less i) (σ.set i (some (.ref e))) (upd H' e (exO e C od false))
def zlp (K:PySem.W.Frag)(cv:Value)(ts:TS)(D:Ends):St→XK:=fun σ cls od H'=>∃C,cls=.ref C∧PySem.W.exmOne K (.ref C) cv=some true∧
 ∀e,H' e=none→ts D σ (upd H' e (exO e C od false))
def zk8 (K:PySem.W.Frag)(cv:Value)(i:Nat)(tb:(St→XK)→TS)(ts:TS):TS:=fun D σ H=>tb (zg0 K cv i ts D) D σ H
def zns (K:PySem.W.Frag)(cv:Value)(tb:(St→XK)→TS)(ts:TS):TS:=fun D σ H=>tb (zlp K cv ts D) D σ H
theorem _root_.Px.Chg2.mono {fs:List Addr}{own own':Addr→Prop}{h h':Heap}(c:Chg2 fs own h h')(k:∀b,own b→own' b):Chg2 fs own' h h':=
 ⟨c.size,fun b o q a n=>c.keep b o q a fun z=>n (k b z),fun b o q a n=>c.slot b o q a fun z=>n (k b z)⟩
section
variable {X:Cx}{x n:Str}{i:Nat}{cv:Value}{body suite:List Stmt}{b₀:Stmt}{np hpos pos:Pos}{tb:(St→XK)→TS}{ts:TS}
theorem Inv.caught {pins:List (Addr ×Obj)}{σ:St}{H H':Hp}{s s2:Shared}{h4:Heap}{ea C T T':Addr}{od:Option Addr}(J0:Inv X pins σ H s)(os:s2.os=s.os)(bare:AllBare s2.gens)(un:Un (frs X.stack) [] H H' s.heap s2.heap)(hok:HOk X.prog X.w H' s2.heap)
  (old:s.heap.get? ea=none∨H ea≠none) (nT:s.heap.get? T=none) (u1:H' ea=none) (u2:H' T=none) (z:s2.heap.objs.size≤T') (c:Chg2 (frs X.stack) (fun b=>b=ea∨b=T∨b=T') s2.heap h4) (tb:Tb h4 ea (.ref C) od T' .none):
  Inv X pins σ (upd H' ea (exO ea C od false)) {s2 with heap:=h4}:=by
 obtain ⟨oe,vs,oT,tz,ge,e1,e2,e3,_⟩:=tb
 have ge':h4.get? ea=some ⟨.ref C,od,.fields vs,oe.slots⟩:=by
  obtain ⟨c0,d0,dt,sl⟩:=oe
  dsimp only at e1 e2 e3
  subst e1;subst e2;subst e3
  exact ge
 have nT2:s2.heap.get? T'=none:=Heap.get?_none_of_le z
 have fr2:∀b∈frs X.stack,H' b=none:=fun b hb=>by
  have J:=J0.call' os un hok bare (fun b z=>nomatch z)
  exact J.stkFree b hb
 have u3:H' T'=none:=hok.fresh z
 have U:Un (frs X.stack) [] H H' s.heap h4:=un.chg c (fun b ob _ y=>y) fun b y=>by
  rcases y with y | y | y
  ·subst y
   rcases old with y | y
   ·exact .inl y
   ·exact .inr ⟨y,⟨_,ge⟩⟩
  ·subst y;exact .inl nT
  ·subst y;exact .inl (zbS un (by intro z;cases z) nT2)
 have O:HOk X.prog X.w H' h4:=hok.chg c (fun b y=>by
  rcases y with y | y | y
  ·rw [y];exact u1
  ·rw [y];exact u2
  ·rw [y];exact u3) fr2
 refine J0.call' (s':={s2 with heap:=h4}) os (U.track u1 fun ob q=>.inr ?_) (O.track u1 (zfi ge' fun z=>by cases z)) bare (fun b z=>nomatch z)
 rcases old with y | y
 ·rw [y] at q;cases q
 ·exact y
theorem ziQ (hst:X.stack=X.env::X.outer)(hfm:X.env.frame=some X.env.locals)(hN:X.N.Nodup)(hi:X.N[i]? =some n)(hlo:X.env.scope.names.lookup n=some .local)(hg:Gl X x)(hm:X.mg x=some cv)
  (hb:∀xe pn E,zca (CX1 X.prog X.w) (X.tried xe pn) E→PSs (X.tried xe pn) body (tb E)) (hs:∀e,PSs (X.suite e) (b₀::suite) ts) (hdb:(x==("__debug__" :Str))=false:=by decide):
  PS X (.Try body [.ExceptHandler (some (.Name x np)) (some n) (b₀::suite) hpos] [] [] pos) (zk8 X.K cv i tb ts):=by
 intro pins s σ H D I h
 have key:zca (CX1 X.prog X.w) (X.tried (fun e s₁=>wpAny (model X.prog X.w) X.A (noteFrame e X.env) (fun _ s₂=>wpAny (model X.prog X.w) X.A (setFlight e none) (fun _ s₃=>
   wpAny (model X.prog X.w) X.A (handleBy e X.env [.ExceptHandler (some (.Name x np)) (some n) (b₀::suite) hpos]) (SP X pins D) X.xe s₃) X.xe s₂) X.xe s₁) (X.pn++pins)) (zg0 X.K cv i ts D):=by
  intro pins' σ' H1 s1 e s2 I1 hc
  obtain ⟨ea,cls,od,H',T,rfl,os,bare,un,hok,tb',old,nT,u1,u2,C,rfl,em,q⟩:=hc
  have J0:Inv X pins σ' H1 s1:=I1.untried
  have J:=J0.call' os un hok bare (fun b z=>nomatch z)
  show wpAny _ _ (noteFrame (.ref ea) X.env) _ _ s2
  refine zk5 (base:=X.base) (by rw [←hst];exact J.ok.frames) (by rw [←hst];exact J.stack) hfm tb' fun h3 T' z t3 c3=>?_
  rw [show (X.env::X.outer).filterMap (·.frame)=frs X.stack from by rw [hst];rfl] at c3
  have c3':Chg2 (frs X.stack) (fun b=>b=ea∨b=T∨b=T') s2.heap h3:=c3.mono fun b y=>y.elim .inl fun y=>.inr (.inl y)
  have J3:=J0.caught os bare un hok old nT u1 u2 z c3' t3
  have LT:PySem.W.Looks (model X.prog X.w) h3 (typeOf (.ref ea)) (.ref C):=by
   obtain ⟨vs,sl,ge,_⟩:=zbs J3.hok ze
   exact (PySem.W.Looks.ld ge).andThen .now
  refine wpAny_handleBy_cons (codeAny_handlers_test (za8 (X:=X.suite ea) (J3.suite ea) hg hm ?_ hdb)) (by intro y;cases y)
  refine (PySem.W.exm_one J3.kIn LT em).here (s:={s2 with heap:=h3}) ?_
  refine codeAny_handlers_suite_as ?_
  refine zdh (s:={s2 with heap:=h3}) (fs:=frs X.stack) t3 fun h4 t4 c4 k4=>?_
  have J4:=J0.caught os bare un hok old nT u1 u2 z (c3'.trans (c4.two (own:=fun b=>b=ea∨b=T∨b=T') (.inl rfl) (.inl (.inr (.inr rfl))))) t4
  refine zcq (X:=X) J4 hN hi (.inl hlo) (show RelV (.ref ea) (Value.ref ea) from rfl) (fun s5 J5=>?_) (.inr hlo)
  refine wpAny_mono (hs ea pins s5 _ _ (D.less i) (J5.suite ea) (q ea u1)) (fun f s6 q6=>?_) fun _ _ y=>y.elim
  show wpAny _ _ _ _ _ _
  cases f with
  | next=>
   obtain ⟨σ6,H6,J6,y⟩:=q6
   exact zae (J6.unsuite J0.ok) hN hi hlo fun s7 J7=>⟨_,_,J7,y⟩
  | brk=>
   obtain ⟨σ6,H6,J6,y⟩:=q6
   exact zae (J6.unsuite J0.ok) hN hi hlo fun s7 J7=>⟨_,_,J7,y⟩
  | cont=>
   obtain ⟨σ6,H6,J6,y⟩:=q6
   exact zae (J6.unsuite J0.ok) hN hi hlo fun s7 J7=>⟨_,_,J7,y⟩
  | ret u=>
   obtain ⟨v6,σ6,H6,J6,rv,y⟩:=q6
   exact zae (J6.unsuite J0.ok) hN hi hlo fun s7 J7=>⟨_,_,_,J7,rv,y⟩
 refine wpAny_Try_except (wpAny_mono (hb _ (X.pn++pins) _ key [] s σ H D (I.tried _) h) (fun f s₁ q=>?_) fun _ _ y=>y)
 cases f with
 | next=>obtain ⟨σ',H',I',y⟩:=q;exact wpAny_execs_nil ⟨σ',H',I'.untried,y⟩
 | brk=>obtain ⟨σ',H',I',y⟩:=q;exact ⟨σ',H',I'.untried,y⟩
 | cont=>obtain ⟨σ',H',I',y⟩:=q;exact ⟨σ',H',I'.untried,y⟩
 | ret u=>obtain ⟨v,σ',H',I',rv,y⟩:=q;exact ⟨v,σ',H',I'.untried,rv,y⟩
end
end L2
namespace L2
open PySem PySem.Spec PyProof.Rows
def cxC (X:Cx)(N:List Str)(scope:Scope)(cl:List (Str ×Addr))(s₀:Shared)(H₀:Hp)(ex:List Addr):Cx:=
 {X with N:=N,s₀:=s₀,H₀:=H₀,env:=compEnvC scope cl s₀.heap.objs.size X.env,outer:=X.stack,ex:=ex,fn:=fun _=>false,pn:=[],xe:=fun _ _=>False}
structure z6 (X:Cx)(x:Str)(ys:List Str)(js:List Nat)(scope:Scope)(cl:List (Str ×Addr)):Prop where
 clos:closureFor scope X.env=pure cl
 kind:scope.kind=.function
 nocell:∀y∈scope.names,y.2≠ .cell
 names:∀y∈scope.names,y.2=.local→scope.names.lookup y.1=some .local
 tgt:scope.names.lookup x=some .local
 nd:(x::ys).Nodup
 sub:∀p∈cl,X.env.cells.lookup p.1=some p.2
 has:∀p∈(relabel scope X.env).names,p.2=.cell∨p.2=.free→p.1∈cl.map (·.1)
 fr:∀(i:Nat) (y:Str),ys[i]? =some y→∃j,js[i]? =some j∧X.N[j]? =some y∧(X.env.kindOf y=some .cell∨X.env.kindOf y=some .free)∧((relabel scope X.env).names.lookup y=some .cell∨(relabel scope X.env).names.lookup y=some .free)
 len:js.length=ys.length
theorem zbA {cl:List (Str ×Addr)}:∀{y:Str},y∈cl.map (·.1)→∃c,cl.lookup y=some c:=by
 induction cl with
 | nil=>intro y h;simp at h
 | cons p r ih=>
  intro y h
  rw [List.lookup_cons]
  cases e:y==p.1 with
  | true=>exact ⟨p.2,rfl⟩
  | false=>
   rw [List.map_cons,List.mem_cons] at h
   rcases h with h | h
   ·rw [h] at e;simp at e
   ·exact ih h
def PTs (X:Cx)(ifs:List Expr)(t:TT):Prop:=
 ∀(pins:List (Addr ×Obj)) (s:Shared) (σ:St) (H:Hp) (Q:Bool→Hp→Prop),Inv X pins σ H s→t σ H Q→
  wpAny (model X.prog X.w) X.A (forIn ifs true fun c r=>if r=true then do let ok←isTrue c X.env (eval c X.env);pure (ForInStep.yield ok) else pure (ForInStep.yield r)) (TP X pins σ Q) X.xe s
def zg1:TT:=fun _ H Q=>Q true H
theorem zgH {X:Cx}:PTs X [] zg1:=fun _ _ _ H _ I h=>wpAny_tests_nil ⟨H,I,h⟩
def frees (σ:St)(js:List Nat):St:=js.map fun j=>(σ[j]?).getD none
def zjh (J:It)(p:Addr)(σ:St)(js:List Nat)(tt:TT)(te:TE)(H1:Hp)(Q:VK):Prop:=
 ∃W:Nat→Nat→List V→Hp→Prop,(∃m,W 0 m [] (upd H1 p (.lst [])))∧∀i m acc H,W i m acc H→
  (J.stop i H∧Q (.ref p) H)∨(J.go i H∧∀x H',J.yld i H x H'→tt (some x::frees σ js) H' fun ok H2=>
   if ok=true then te (some x::frees σ js) H2 fun y H3=>H3 p=some (.lst acc)∧acc.length < sizeLine∧∃m',m' < m∧W (i+1) m' (acc++ [y]) (upd H3 p (.lst (acc++ [y])))
   else∃m',m' < m∧W (i+1) m' acc H2)
def zkX (wi:TI)(js:List Nat)(tt:TT)(te:TE):TE:=fun σ H Q=>wi σ H fun J H1=>∀p,H1 p=none→zjh J p σ js tt te H1 Q
section
variable {X:Cx}{x:Str}{ys:List Str}{js:List Nat}{scope:Scope}{cl:List (Str ×Addr)}{pins:List (Addr ×Obj)}{σ:St}{H:Hp}{s:Shared}
theorem z6.cells (S:z6 X x ys js scope cl){y:Str}{c:Addr}(h:cl.lookup y=some c):X.env.cells.lookup y=some c:=S.sub (y,c) (PySem.mem_of_lookup h)
theorem zjO (S:z6 X x ys js scope cl)(I:Inv X pins σ H s){fp:List Addr}(f:∀b∈fp,FpOk X pins H b)(fo:∀b∈fp,b < s.heap.objs.size){h1:Heap}{m:Str→Option Value}{t1:Nat}(hn:h1.Ns s.heap.objs.size m)
  (k:∀b o,s.heap.get? b=some o→h1.get? b=some o):
  Inv (cxC X (x::ys) scope cl s H fp) (X.pn++pins) (none::frees σ js) H {s with heap:=h1,toks:=t1}:=by
 have nfs:∀b∈fp,b∉frs X.stack:=fun b hb z=>(List.mem_cons.mp (I.stkSub b z)).elim (f b hb).2.1 (f b hb).2.2.1
 have kept:∀y c,cl.lookup y=some c→∀v,s.heap.IsCell c v→h1.IsCell c v:=fun y c _ v ⟨o,ho,hd⟩=>⟨o,k c o ho,hd⟩
 refine ⟨⟨I.ok.mod,S.kind,I.ok.glob,I.ok.blt,Nat.le_refl _,fun y z c e1 e2=>I.ok.inj y z c (S.cells e1) (S.cells e2),fun y hy=>?_,fun y c e _=>absurd e Bool.false_ne_true,I.ok.hd,I.ok.frames,.inl rfl,fun b hb=>⟨?_,fun y c e=>(f b hb).2.2.2.2.1 y c (S.cells e)⟩,
   I.bs,Nat.le_trans I.ok.bsz I.sz,fun b o e hb=>?_,nfs,I.stack,I.stkFree⟩,
  I.os.trans ?_,I.bare,Un.kept k,⟨m,hn,fun i y v e1 e2 e3=>?_⟩,fun y c e=>?_,I.hok.fresh (Nat.le_refl _),fun y c e=>I.freeC y c (S.cells e),fun p hp=>?_,I.hok.kept k,?_⟩
 ·rcases hy with hy | hy
  ·exact zbA (S.has _ (PySem.mem_of_lookup hy) (.inl rfl))
  ·exact zbA (S.has _ (PySem.mem_of_lookup hy) (.inr rfl))
 ·exact Nat.ne_of_lt (fo b hb)
 ·rcases (f b hb).2.2.2.1 with z | z
  ·exact I.ok.noex b o e z
  ·exact absurd (Nat.lt_of_lt_of_le (Heap.lt_size e) (Nat.le_trans I.ok.bsz z)) (Nat.lt_irrefl _)
 ·exact I.os.symm
 ·cases i with
  | zero=>cases e2
  | succ i=>
   obtain ⟨j,ej,eN,ek,ek'⟩:=S.fr i y e1
   have es:σ[j]? =some (some v):=by
    have q:(frees σ js)[i]? =some (some v):=e2
    unfold frees at q
    rw [List.getElem?_map,ej] at q
    have q':(σ[j]?).getD none=some v:=Option.some.inj q
    cases e:σ[j]? with
    | none=>rw [e] at q';cases q'
    | some o=>rw [e] at q';cases q';rfl
   obtain ⟨m0,_,hl⟩:=I.loc
   obtain ⟨u,r,l⟩:=hl j y v eN es (.inr ek)
   rcases l with ⟨l,_⟩ | ⟨_,c,ec,hc⟩
   ·rcases ek with ek | ek <;> · rw [ek] at l;cases l
   ·have hk:y∈cl.map (·.1):=by
     rcases ek' with q | q
     ·exact S.has _ (PySem.mem_of_lookup q) (.inl rfl)
     ·exact S.has _ (PySem.mem_of_lookup q) (.inr rfl)
    obtain ⟨c',ec'⟩:=zbA hk
    have e:=S.cells ec'
    rw [ec] at e
    cases e
    exact ⟨u,r,.inr ⟨ek',c,ec',kept y c ec' _ hc⟩⟩
 ·obtain ⟨v,q⟩:=I.cell y c (S.cells e)
  exact ⟨v,kept y c e v q⟩
 ·have hp':p∈X.pn++pins:=(List.mem_append.mp hp).elim (fun z=>absurd (show p∈([]:List (Addr ×Obj)) from z) (by simp)) id
  obtain ⟨a,b,c,d,e⟩:=I.pin p hp'
  exact ⟨k _ _ a,b,Nat.ne_of_lt (Heap.lt_size a),fun z=>(List.mem_cons.mp (I.stkSub _ z)).elim c d,e⟩
 ·show _=(x::ys).length
  rw [List.length_cons,List.length_cons]
  unfold frees
  rw [List.length_map,S.len]
theorem ziP {H1:Hp}{s1:Shared}{σ':St}{pins':List (Addr ×Obj)}{s0:Shared}{H0:Hp}(I:Inv X pins σ H0 s0){fp:List Addr}(f:∀b∈fp,FpOk X pins H0 b)(U0:Un (frs X.stack) fp H0 H s0.heap s.heap)(ho:s.os=s0.os)
  (J:Inv (cxC X (x::ys) scope cl s H fp) pins' σ' H1 s1):Inv X pins σ H1 s1:=by
 have U1:Un (frs X.stack) fp H H1 s.heap s1.heap:=J.base
 exact I.call' (J.os.trans ho) (U0.trans U1) J.hok J.bare fun b hb=>⟨(f b hb).2.2.2.1,(f b hb).2.1,(f b hb).2.2.2.2.1,(f b hb).2.2.2.2.2⟩
variable {iter elt:Expr}{ifs:List Expr}{px pos:Pos}{wi:TI}{tt:TT}{te:TE}
theorem zfs (S:z6 X x ys js scope cl)(hc:X.calm=true)(ht:∀s₀ H₀ ex,PTs (cxC X (x::ys) scope cl s₀ H₀ ex) ifs tt)(he:∀s₀ H₀ ex,PE (cxC X (x::ys) scope cl s₀ H₀ ex) elt te)
  {s2:Shared} {H2:Hp} {it:Addr} {fp:List Addr} {tn:Nat→Heap→Prop} {J:It} (I2:Inv X pins σ H2 s2) (T:Turn X.prog X.w X.K (.Name x px) J fp it tn) (st2:tn 0 s2.heap) (f2:∀b∈fp,FpOk X pins H2 b)
  {Q:VK} (q:∀p,H2 p=none→zjh J p σ js tt te H2 Q)
  {R:Value→Addr→Result→Shared→Prop}
  (hR:∀(p:Addr) (C:Addr) (H':Hp) (s':Shared) (m:Str→Option Value),s2.heap.objs.size≤C→s'.heap.Ns C m→H' C=none→Inv X pins σ H' s'→Q (.ref p) H'→R (.ref p) C (.ok .next) s'):
  wpAny (model X.prog X.w) X.A (newList []) (fun acc s₃=>wpAny (model X.prog X.w) X.A (newFunctionEnv scope X.env.globals cl [] X.env.qual none .none (some X.env)) (fun cenv s₄=>
   codeAny (model X.prog X.w) X.A (.compStart (.ListComp elt [⟨.Name x px,iter,ifs,0⟩] scope pos) 0 (.ref it) acc {cenv with scope:=relabel scope X.env}) (R acc cenv.locals) s₄) X.xe s₃) X.xe s2:=by
 refine wpAny_newObj_type (wpAny_newFunctionEnv S.nocell (by intro y hy;simp at hy) (fun h₁ hns₁ hsb₁=>?_) S.kind)
 have fr2:H2 s2.heap.objs.size=none:=I2.hok.fresh (Nat.le_refl _)
 obtain ⟨W,⟨m0,w0⟩,turn⟩:=q _ fr2
 have I3:Inv X pins σ (upd H2 s2.heap.objs.size (.lst [])) {s2 with heap:=s2.heap.push {cls:=.type "list",dict:=none,data:=.seq ([]:List Value).toArray}}:=
  I2.laid (t':=s2.toks) (fun b u e=>Heap.get?_push_of_some _ e) (Nat.le_refl _) ⟨Nat.zero_le _,[],0,.nil,Heap.get?_push_size _ rfl⟩
 have U0:Un (frs X.stack) fp H2 (upd H2 s2.heap.objs.size (.lst [])) s2.heap (s2.heap.push {cls:=.type "list",dict:=none,data:=.seq ([]:List Value).toArray}):=
  Un.laid (fun b u e=>Heap.get?_push_of_some _ e) (Nat.le_refl _) fr2
 have fo:∀b∈fp,b < s2.heap.objs.size:=fun b hb=>by
  obtain ⟨o,e,_⟩:=T.obj 0 _ st2 b hb
  exact Heap.lt_size e
 have f3:∀b∈fp,FpOk X pins (upd H2 s2.heap.objs.size (.lst [])) b:=fun b hb=>⟨by rw [zj (Nat.ne_of_lt (fo b hb))];exact (f2 b hb).1,(f2 b hb).2⟩
 have hold:∀b o,(s2.heap.push {cls:=.type "list",dict:=none,data:=.seq ([]:List Value).toArray}).get? b=some o→h₁.get? b=some o:=fun b o e=>
  hsb₁.extBut b o (Nat.ne_of_lt (Heap.lt_size e)) (Heap.get?_push_of_some _ e)
 have fo3:∀b∈fp,b < (s2.heap.push {cls:=.type "list",dict:=none,data:=.seq ([]:List Value).toArray}).objs.size:=fun b hb=>by rw [Heap.size_push];exact Nat.lt_succ_of_lt (fo b hb)
 have I4:=zjO (t1:=s2.toks+([]:List (Str ×Value)).length) S I3 f3 fo3 hns₁ hold
 have st4:tn 0 h₁:=T.keep _ _ _ st2 fun b _ o e=>hold b o (Heap.get?_push_of_some _ e)
 have stat:∀{H':Hp},(∀b∈fp,H' b=none)→∀b∈fp,FpOk (cxC X (x::ys) scope cl {s2 with heap:=s2.heap.push {cls:=.type "list",dict:=none,data:=.seq ([]:List Value).toArray}} (upd H2 s2.heap.objs.size (.lst [])) fp) (X.pn++pins) H' b:=fun hn b hb=>
  ⟨hn b hb,Nat.ne_of_lt (fo3 b hb),I4.ok.exfs b hb,.inl hb,fun y c e=>(f2 b hb).2.2.2.2.1 y c (S.cells e),fun p hp=>(f2 b hb).2.2.2.2.2 p ((List.mem_append.mp hp).elim (fun z=>absurd (show p∈([]:List (Addr ×Obj)) from z) (by simp)) id)⟩
 have loop:codeAny (model X.prog X.w) X.A (.compLoop (.ListComp elt [⟨.Name x px,iter,ifs,0⟩] scope pos) 0 (.ref it) (.ref s2.heap.objs.size) (compEnvC scope cl (s2.heap.push {cls:=.type "list",dict:=none,data:=.seq ([]:List Value).toArray}).objs.size X.env))
   (R (.ref s2.heap.objs.size) (s2.heap.push {cls:=.type "list",dict:=none,data:=.seq ([]:List Value).toArray}).objs.size) {s2 with heap:=h₁,toks:=s2.toks+([]:List (Str ×Value)).length}:=by
  refine codeAny_loop rfl (fun n s'=>∃i acc v0 H',Inv (cxC X (x::ys) scope cl {s2 with heap:=s2.heap.push {cls:=.type "list",dict:=none,data:=.seq ([]:List Value).toArray}} (upd H2 s2.heap.objs.size (.lst [])) fp) (X.pn++pins) (v0::frees σ js) H' s'∧tn i s'.heap∧(∀b∈fp,H' b=none)∧W i n acc H')
   (fun n s5 hI=>?_) m0 ⟨0,[],none,_,I4,st4,fun b hb=>(f3 b hb).1,w0⟩
  show wpAny _ X.A ((compTurn (.ListComp elt [⟨.Name x px,iter,ifs,0⟩] scope pos) 0 (.ref it) (.ref s2.heap.objs.size) (compEnvC scope cl (s2.heap.push {cls:=.type "list",dict:=none,data:=.seq ([]:List Value).toArray}).objs.size X.env)).onRaise (fun x=>do noteFrame x (compEnvC scope cl (s2.heap.push {cls:=.type "list",dict:=none,data:=.seq ([]:List Value).toArray}).objs.size X.env);theTreesLotGoes x)) _ _ s5
  refine wpAny_noted ?_
  rw [compTurn_list]
  obtain ⟨i,acc,v0,H5,I5,st5,fr5,w5⟩:=hI
  refine wpAny_bind (wpAny_standAt (wpAny_bind ?_))
  rcases turn i n acc H5 w5 with ⟨stop,qn⟩ | ⟨go,step⟩
  ·refine wpAny_mono (T.done (cxC X (x::ys) scope cl {s2 with heap:=s2.heap.push {cls:=.type "list",dict:=none,data:=.seq ([]:List Value).toArray}} (upd H2 s2.heap.objs.size (.lst [])) fp) rfl rfl rfl hc i _ s5 _ H5 _ I5 (stat fr5) st5 stop) (fun r s6 ⟨hr,I6⟩=>?_) fun _ _ e=>e
   subst hr
   obtain ⟨m,hn,_⟩:=I6.loc
   exact wpAny_pure (hR _ _ H5 s6 m (by rw [Heap.size_push];exact Nat.le_succ _) hn I6.free (ziP I2 f2 U0 (by rfl) I6) qn)
  ·refine wpAny_mono (T.item (cxC X (x::ys) scope cl {s2 with heap:=s2.heap.push {cls:=.type "list",dict:=none,data:=.seq ([]:List Value).toArray}} (upd H2 s2.heap.objs.size (.lst [])) fp) rfl rfl rfl hc i _ s5 _ H5 _ I5 (stat fr5) st5 go) (fun r s6 ⟨u,hr,h6⟩=>?_) fun _ _ e=>e
   subst hr
   refine wpAny_bind (wpAny_mono h6 (fun _ s7 ⟨v,H7,I7,r7,y7,st7,fr7⟩=>?_) fun _ _ e=>e)
   have I7':=I7.pinned (stat fr7) (T.obj _ _ st7)
   have G:PG (cxC X (x::ys) scope cl {s2 with heap:=s2.heap.push {cls:=.type "list",dict:=none,data:=.seq ([]:List Value).toArray}} (upd H2 s2.heap.objs.size (.lst [])) fp) (.Name x px) (zc3 0):=
    zX S.nd rfl (.inl (lookup_relabel_local S.tgt)) (.inr (lookup_relabel_local S.tgt))
   refine wpAny_bind (wpAny_mono (G _ s7 _ H7 v u (fun σ8 H8=>σ8=some v::frees σ js∧H8=H7) I7' r7 ⟨rfl,rfl⟩) (fun _ s8 ⟨σ8,H8,I8,e8,e8'⟩=>?_) fun _ _ e=>e.elim)
   subst e8 e8'
   refine wpAny_bind (wpAny_mono (ht _ _ _ _ s8 _ _ _ I8 (step v _ y7)) (fun ok s9 ⟨H9,I9,q9⟩=>?_) fun _ _ e=>e.elim)
   have again:∀{acc':List V} {H10:Hp} {s10:Shared},Inv (cxC X (x::ys) scope cl {s2 with heap:=s2.heap.push {cls:=.type "list",dict:=none,data:=.seq ([]:List Value).toArray}} (upd H2 s2.heap.objs.size (.lst [])) fp) (X.pn++pins++zdW fp s7.heap) (some v::frees σ js) H10 s10→
     (∃m',m' < n∧W (i+1) m' acc' H10)→∃m,m < n∧∃i acc v0 H',Inv (cxC X (x::ys) scope cl {s2 with heap:=s2.heap.push {cls:=.type "list",dict:=none,data:=.seq ([]:List Value).toArray}} (upd H2 s2.heap.objs.size (.lst [])) fp) (X.pn++pins) (v0::frees σ js) H' s10∧tn i s10.heap∧(∀b∈fp,H' b=none)∧W i m acc H':=fun {acc' H10 s10} I10 ⟨m',hm,w10⟩=>by
    refine ⟨m',hm,i+1,acc',some v,H10,I10.unpinned,T.keep _ _ _ st7 fun b hb o e=>(I10.pin (b,o) (List.mem_append_right _ (List.mem_append_right _ (zb9 hb e)))).1,fun b hb=>?_,w10⟩
    obtain ⟨o,e,d⟩:=T.obj _ _ st7 b hb
    exact (I10.pin (b,o) (List.mem_append_right _ (List.mem_append_right _ (zb9 hb e)))).2.1
   cases ok with
   | false=>
    rw [if_neg Bool.false_ne_true] at q9
    exact wpAny_pure ⟨rfl,again I9 q9⟩
   | true=>
    rw [if_pos rfl] at q9
    refine wpAny_bind (wpAny_bind (wpAny_mono (he _ _ _ _ s9 _ _ _ I9 q9) (fun y s10 ⟨z,H10,I10,r10,e10,l10,w10⟩=>?_) fun _ _ e=>e.elim))
    refine wpAny_bind (wpAny_mono (zaP (X:=cxC X (x::ys) scope cl {s2 with heap:=s2.heap.push {cls:=.type "list",dict:=none,data:=.seq ([]:List Value).toArray}} (upd H2 s2.heap.objs.size (.lst [])) fp) _ s10 _ H10 (.ref s2.heap.objs.size) [z] (.ref s2.heap.objs.size) [y] (fun _ H'=>H'=upd H10 s2.heap.objs.size (.lst (acc++ [z]))) I10 rfl (.cons r10 .nil) ⟨_,acc,z,rfl,rfl,e10,l10,rfl⟩)
     (fun _ s11 ⟨_,H11,I11,_,e11⟩=>?_) fun _ _ e=>e.elim)
    subst e11
    exact wpAny_pure (wpAny_pure ⟨rfl,again I11 w10⟩)
 exact codeAny_compStart_list loop (T.self _ 0 _ _ _ st4 loop)
theorem zjj (S:z6 X x ys js scope cl)(hc:X.calm=true)(hi:PI X (.Name x px) iter wi)(ht:∀s₀ H₀ ex,PTs (cxC X (x::ys) scope cl s₀ H₀ ex) ifs tt)(he:∀s₀ H₀ ex,PE (cxC X (x::ys) scope cl s₀ H₀ ex) elt te)
  (hs:∀x,foldedSetIterable iter X.env x=pure x:=by intro _;rfl):PE X (.ListComp elt [⟨.Name x px,iter,ifs,0⟩] scope pos) (zkX wi js tt te):=by
 intro pins s σ H Q I h
 rw [eval_ListComp]
 refine wpAny_comprehension_free (use:=none) rfl hs S.clos S.kind S.names (thn (hi pins s σ H _ I h) fun v s1 h1=>thn h1 fun itv s2 h2=>?_)
 obtain ⟨it,fp,tn,J,H2,e,I2,T,st2,f2,q⟩:=h2
 subst e
 refine zfs (Q:=Q) (R:=fun acc C=>compPost (model X.prog X.w) X.A X.xe none (EP X pins σ Q) acc C) S hc ht he I2 T st2 f2 q fun p C H' s' m hC hn hf I' q'=>?_
 refine ⟨m,hn,fun h' hb=>⟨.ref p,H',?_,rfl,q'⟩⟩
 exact I'.turned (it:=C) (t':=s'.toks) (fun b o hne e=>hb.extBut b o hne e) hf (Nat.ne_of_gt (Nat.lt_of_lt_of_le I2.lt hC)) (.inr (Nat.le_trans I2.sz hC))
  (fun y c e z=>by obtain ⟨v,w⟩:=I2.cell y c e;subst z;exact Nat.lt_irrefl _ (Nat.lt_of_lt_of_le w.lt hC)) fun p hp z=>by have q:=Heap.lt_size (I2.pin p hp).1;rw [z] at q;exact Nat.lt_irrefl _ (Nat.lt_of_lt_of_le q hC)
theorem zi0 {i:Nat}{y:Str}{py spos:Pos}(S:z6 X x ys js scope cl)(hc:X.calm=true)(hi:PI X (.Name x px) iter wi)(ht:∀s₀ H₀ ex,PTs (cxC X (x::ys) scope cl s₀ H₀ ex) ifs tt)(he:∀s₀ H₀ ex,PE (cxC X (x::ys) scope cl s₀ H₀ ex) elt te)
  (hN:X.N.Nodup) (hy:X.N[i]? =some y) (hx:Loc X.env.scope y) (hsw:swapsWith (.ListComp elt [⟨.Name x px,iter,ifs,0⟩] scope pos) (some (.Name y py)) spos.line X.env=pure true)
  (hf:X.fn y=true∨X.env.scope.names.lookup y=some .local:=by first | exact .inl rfl | exact .inr rfl | assumption)
  (hs:∀x,foldedSetIterable iter X.env x=pure x:=by intro _;rfl):PS X (.Assign [.Name y py] (.ListComp elt [⟨.Name x px,iter,ifs,0⟩] scope pos) spos) (tAsg (zkX wi js tt te) (zc3 i)):=by
 intro pins s σ H D I h
 rw [exec_Assign_Name_used _ _ _ _ hsw]
 refine wpAny_bind (wpAny_standAt (wpAny_bind ?_))
 show wpAny _ X.A (do let _←comprehension (.ListComp elt [⟨.Name x px,iter,ifs,0⟩] scope pos) scope X.env _ (newList []) false (eval iter X.env) (some (assign (.Name y py) X.env))) _ _ s
 refine wpAny_bind (wpAny_mono (wpAny_comprehension_free (use:=some (assign (.Name y py) X.env)) (Q:=fun _ s'=>SP X pins D .next s') rfl hs S.clos S.kind S.names
  (thn (hi pins s σ H _ I h) fun v s1 h1=>thn h1 fun itv s2 h2=>?_)) (fun _ s' hq=>wpAny_pure (wpAny_pure hq)) fun _ _ e=>e)
 obtain ⟨it,fp,tn,J,H2,e,I2,T,st2,f2,q⟩:=h2
 subst e
 refine zfs (Q:=fun x H1=>zc3 i x σ H1 D.nx) (R:=fun acc C=>compPost (model X.prog X.w) X.A X.xe (some (assign (.Name y py) X.env)) (fun _ s'=>SP X pins D .next s') acc C) S hc ht he I2 T st2 f2 q fun p C H' s' m hC hn hf' I' q'=>?_
 have neL:C≠X.env.locals:=Nat.ne_of_gt (Nat.lt_of_lt_of_le I2.lt hC)
 have nfs:C∉X.fs:=I2.nofs hC
 have hn0:=hn
 obtain ⟨o,es,ep,ho,hd,r⟩:=hn
 have Ip:Inv X (pins++ [(C,o)]) σ H' s':=I'.pins_of fun p hp=>(List.mem_append.mp hp).elim (fun z=>I'.pin p (List.mem_append_right _ z)) fun z=>by
  have e:p=(C,o):=by simpa using z
  subst e
  exact ⟨ho,hf',neL,nfs,fun v w=>by rw [hd] at w;cases w⟩
 show wpAny _ _ (assign (.Name y py) X.env (.ref p)) _ _ s'
 refine thn (zX (pos:=py) hN hy hx hf _ s' σ H' (.ref p) (.ref p) _ Ip rfl q') fun _ s'' ⟨σ8,H8,I8,q8⟩=>?_
 have pc:=I8.pin (C,o) (List.mem_append_right _ (List.mem_append_right _ (by simp)))
 refine ⟨m,⟨o,es,ep,pc.1,hd,r⟩,fun h' hb=>⟨σ8,H8,?_,q8⟩⟩
 have I9:Inv X pins σ8 H8 s'':=I8.pins_of fun p hp=>I8.pin p (List.mem_append_right _ (List.mem_append_left _ hp))
 exact I9.turned (it:=C) (t':=s''.toks) (fun b o hne e=>hb.extBut b o hne e) pc.2.1 neL (.inr (Nat.le_trans I2.sz hC))
  (fun y c e z=>by obtain ⟨v,w⟩:=I2.cell y c e;subst z;exact Nat.lt_irrefl _ (Nat.lt_of_lt_of_le w.lt hC)) fun p hp z=>by have q:=Heap.lt_size (I2.pin p hp).1;rw [z] at q;exact Nat.lt_irrefl _ (Nat.lt_of_lt_of_le q hC)
end
end L2
namespace L2
open PySem PySem.Spec PyProof.Rows
section
variable {X:Cx}
def zjK (i j:Int):Prop:=0 < j∧j < 10 ^ 100
theorem zjK.log {i j:Int}(h:zjK i j):j.natAbs.log2 < 9000:=by
 have h1:j.natAbs < 10 ^ 100:=by have:=h.1;have:=h.2;omega
 have h2:j.natAbs < 2 ^ 400:=Nat.lt_trans h1 (by decide+kernel)
 have h3:j.natAbs≠0:=by have:=h.1;omega
 have:=(Nat.log2_lt h3).mpr h2
 omega
theorem zea:OpR X (binaryOp .FloorDiv) (rI zjK fun i j=>.int (i / j)):=opI fun i j _ _ _ _ _ hc q=>by
 rw [←Int.fdiv_eq_ediv_of_nonneg i (Int.le_of_lt hc.1)] at q
 exact floordiv_int (by have:=hc.1;omega) q (.inl (PyProof.noPylong_of_log2 hc.log))
def zl8 (K:PySem.W.Frag):List V→Hp→VK→Prop:=fun xs H Q=>∃x T t b,xs=[x,.ty T]∧TyOf K H x t∧PySem.W.kitOne K t (.type T)=some b∧Q (.bl b) H
theorem zU:zaW X (.builtin "isinstance") (zl8 X.K):=by
 intro pins s σ H xs us Q I r h
 obtain ⟨x,T,t,b,rfl,ty,e,q⟩:=h
 obtain ⟨u,w',rfl,ru,rw'⟩:=vals2 r
 cases (show w'=Value.type T from rw')
 exact zhX I ru ty e fun tk=>⟨.bl b,H,I.tok tk,rfl,q⟩
example (K:PySem.W.Frag):PySem.W.kitOne K (.type "NoneType") (.type "int")=some false:=by rfl
example (K:PySem.W.Frag):PySem.W.kitOne K (.type "int") (.type "int")=some true:=by rfl
example (K:PySem.W.Frag):PySem.W.kitOne K (.type "tuple") (.type "str")=some false:=by rfl
example (K:PySem.W.Frag):PySem.W.kitOne K (.type "bool") (.type "int")=some true:=by rfl
example (K:PySem.W.Frag):PySem.W.kitOne K (.type "str") (.type "bool")=some false:=by rfl
def Its (x:Str):It:=⟨fun i _=>i < x.cps.size,fun i H v H'=>H'=H∧∃c,x.cps[i]? =some c∧v=.str ⟨#[c]⟩,fun i _=>x.cps.size≤i⟩
theorem zft {P:Program}{w:World}{K:PySem.W.Frag}{tg:Expr}{x:Str}{it:Addr}{n:String}{t:Tok}(hn:["enumerate","zip","dict_itemiterator","dict_reverseitemiterator","odict_iterator","itertools.zip_longest","itertools.pairwise"].contains n=false)
  (W:∀A':Around,A'.handled=none→Walks P w A' it [it] [it] x.cps.size (SignAt x) (fun i h=>h.IsStrIter it n x t i))
  (E0:∀(A':Around) (s:Shared) (Q:Option Value→Shared→Prop) (E:Value→Shared→Prop) (i:Nat),A'.handled=none→s.heap.IsStrIter it n x t i→x.cps.size≤i→(∀h',(∀b o,b≠it→s.heap.get? b=some o→h'.get? b=some o)→Q none {s with heap:=h'})→wpAny (model P w) A' (pyNext (.ref it)) Q E s)
  (S0:∀(A':Around) (s:Shared) (Q:Value→Shared→Prop) (E:Value→Shared→Prop) (i:Nat),s.heap.IsStrIter it n x t i→Q (.ref it) s→wpAny (model P w) A' (pyIter (.ref it)) Q E s):
  Turn P w K tg (Its x) [it] it (fun i h=>h.IsStrIter it n x t i) where
 mem:=by simp
 obj:=fun i h st b hb=>by
  have e:b=it:=by simpa using hb
  subst e
  obtain ⟨o,e,c,d⟩:=st
  exact ⟨o,e,fun v z=>by rw [d] at z;cases z⟩
 keep:=fun i h h' st k=>by
  obtain ⟨o,e,r⟩:=st
  exact ⟨o,k it (by simp) o e,r⟩
 item:=by
  intro X hP hw hK hc i pins s σ H E I hf st hg
  subst hP hw hK
  obtain ⟨f0,f1,f2,f3,f4,f5⟩:=hf it (by simp)
  refine (W X.A (I.ok.hd hc)).item i s _ _ hg st fun v h' tk hv st' kk=>?_
  obtain ⟨c,u,hc',rfl⟩:=hv
  have I1:Inv X pins σ H {s with heap:=h',toks:=tk}:=I.turned (fun b o hb e=>kk b o (by simpa using hb) e) f0 f1 f3 f4 f5
  obtain ⟨o,e,cl,d⟩:=id st'
  exact ⟨_,rfl,zfP (s:={s with heap:=h',toks:=tk}) e cl d hn ⟨.str ⟨#[c]⟩,H,I1,⟨u,rfl⟩,⟨rfl,c,hc',rfl⟩,st',fun b hb=>(hf b hb).1⟩⟩
 done:=by
  intro X hP hw hK hc i pins s σ H E I hf st hg
  subst hP hw hK
  obtain ⟨f0,f1,f2,f3,f4,f5⟩:=hf it (by simp)
  exact E0 X.A s _ _ i (I.ok.hd hc) st hg fun h' eb=>⟨rfl,I.turned (t':=s.toks) (fun b o hb e=>eb b o hb e) f0 f1 f3 f4 f5⟩
 self:=fun A i s Q E st h=>S0 A s Q E i st h
def iStr (tl:TE):TI:=fun σ H R=>tl σ H fun x H1=>∃z,x=.str z∧R (Its z) H1
theorem ziE {tg l:Expr}{tl:TE}(hl:PE X l tl):PI X tg l (iStr tl):=by
 intro pins s σ H R I h
 refine thn (hl pins s σ H _ I h) fun v s1 ⟨x,H1,I1,r1,q1⟩=>?_
 obtain ⟨z,rfl,q⟩:=q1
 obtain ⟨t,rfl⟩:=r1
 have fp:∀b∈ [s1.heap.objs.size],FpOk X pins H1 b:=fun b hb=>by
  have e:b=s1.heap.objs.size:=by simpa using hb
  subst e
  exact I1.fpOk (Nat.le_refl _) (I1.hok.fresh (Nat.le_refl _))
 cases ha:z.cps.all (· < 128)
 ·refine wpAny_pyIter_wide ha ?_
  exact ⟨s1.heap.objs.size,[s1.heap.objs.size],_,_,H1,rfl,I1.kept (t':=s1.toks) fun b o e=>Heap.get?_push_of_some _ e,
   zft (n:= "str_iterator") (t:=t) (by decide) (fun A' hA=>Walks.strWide hA _ z t) (fun A' s Q E i hA st hi hQ=>wpAny_pyNext_wide_end hA st (by simpa using hi) fun h' he'=>hQ h' fun b o hb e=>he' b o hb e) (fun A' s Q E i st hQ=>wpAny_pyIter_striter_wide st hQ),
   ⟨_,Heap.get?_push_size _ rfl,rfl,rfl⟩,fp,q⟩
 ·refine wpAny_pyIter_ascii ha ?_
  exact ⟨s1.heap.objs.size,[s1.heap.objs.size],_,_,H1,rfl,I1.kept (t':=s1.toks) fun b o e=>Heap.get?_push_of_some _ e,
   zft (n:= "str_ascii_iterator") (t:=t) (by decide) (fun A' hA=>Walks.strAscii hA _ z t) (fun A' s Q E i hA st hi hQ=>wpAny_pyNext_ascii_end hA st (by simpa using hi) fun h' he'=>hQ h' fun b o hb e=>he' b o hb e) (fun A' s Q E i st hQ=>wpAny_pyIter_striter_ascii st hQ),
   ⟨_,Heap.get?_push_size _ rfl,rfl,rfl⟩,fp,q⟩
theorem zhc {z:Str}{g:TG}{tb:TS}{D:Ends}{σ:St}{H:Hp}(Pv:Nat→St→Hp→Prop)(h0:Pv 0 σ H)
  (hs:∀i c σ H,z.cps[i]? =some c→Pv i σ H→g (.str ⟨#[c]⟩) σ H fun σ2 H2=>tb {D with nx:=Pv (i+1),ct:=Pv (i+1),bk:=D.nx} σ2 H2) (hd:∀σ H,Pv z.cps.size σ H→D.nx σ H):
  ∃W:Nat→Nat→St→Hp→Prop,(∃m,W 0 m σ H)∧∀i m σ H,W i m σ H→
   ((Its z).stop i H∧D.nx σ H)∨((Its z).go i H∧∃N:St→Hp→Prop,(∀σ' H',N σ' H'→∃m',m' < m∧W (i+1) m' σ' H')∧∀x H',(Its z).yld i H x H'→g x σ H' fun σ2 H2=>tb {D with nx:=N,ct:=N,bk:=D.nx} σ2 H2):=by
 refine ⟨fun i m σ H=>m=z.cps.size - i∧i≤z.cps.size∧Pv i σ H,⟨z.cps.size,by simp,Nat.zero_le _,h0⟩,?_⟩
 rintro i m σ H ⟨rfl,hi,p⟩
 by_cases hlt:i < z.cps.size
 ·refine .inr ⟨hlt,Pv (i+1),fun σ' H' p'=>⟨z.cps.size - (i+1),by omega,rfl,hlt,p'⟩,fun x H' y=>?_⟩
  obtain ⟨e,c,ec,ex⟩:=y
  subst e ex
  exact hs i c σ _ ec p
 ·have e:i=z.cps.size:=by omega
  subst e
  exact .inl ⟨Nat.le_refl _,hd σ H p⟩
def Itrs (lo st:Int)(n:Nat):It:=⟨fun i _=>i < n,fun i H x H'=>H'=H∧x=.int (lo+i * st),fun i _=>n≤i⟩
theorem zfX {P:Program}{w:World}{K:PySem.W.Frag}{tg:Expr}(it:Addr)(lo st:Int)(n:Nat):Turn P w K tg (Itrs lo st n) [it] it (fun i h=>IsRangeIter h it (lo+(i:Nat) * st) ((n:Int) - (i:Nat)) st) where
 mem:=by simp
 obj:=fun i h st b hb=>by
  have e:b=it:=by simpa using hb
  subst e
  exact ⟨_,st,fun v z=>by
   have z':Data.fields _=Data.cell v:=z
   cases z'⟩
 keep:=fun i h h' st k=>k it (by simp) _ st
 item:=by
  intro X hP hw hK hc i pins s σ H E I hf st' hg
  subst hP hw hK
  obtain ⟨f0,f1,f2,f3,f4,f5⟩:=hf it (by simp)
  have W:=Walks.range (prog:=X.prog) (w:=X.w) (I.ok.hd hc) it lo st n
  refine W.item i s _ _ hg st' fun v h' tk hv st'' kk=>?_
  obtain ⟨t,rfl⟩:=hv
  have I1:Inv X pins σ H {s with heap:=h',toks:=tk}:=I.turned (fun b o hb e=>kk b o (by simpa using hb) e) f0 f1 f3 f4 f5
  exact ⟨_,rfl,zfP (s:={s with heap:=h',toks:=tk}) (n:= "range_iterator") st'' rfl rfl (by decide) ⟨.int (lo+i * st),H,I1,⟨t,rfl⟩,⟨rfl,rfl⟩,st'',fun b hb=>(hf b hb).1⟩⟩
 done:=by
  intro X hP hw hK hc i pins s σ H E I hf st' hg
  subst hP hw hK
  obtain ⟨f0,f1,f2,f3,f4,f5⟩:=hf it (by simp)
  exact wpAny_pyNext_range_end (I.ok.hd hc) st' (by have:n≤i:=hg;omega) fun h' eb=>⟨rfl,I.turned (t':=s.toks) (fun b o hb e=>eb b o hb e) f0 f1 f3 f4 f5⟩
 self:=fun _ _ _ _ _ st h=>wpAny_pyIter_rangeiter st h
def zmt (ta:TA):TI:=fun σ H R=>ta σ H fun vs H1=>∃j c:Int,vs=[.int 0,.int j,.int c]∧0≤j∧j < 2 ^ 60∧0 < c∧c < 1000∧R (Itrs 0 c ((j+c - 1) / c).toNat) H1
theorem zd2 {j c:Int}(h0:0≤j)(hc:0 < c):Builtin.Range.rangeSize 0 j c=(j+c - 1) / c:=by
 unfold Builtin.Range.rangeSize
 rw [if_pos hc]
 by_cases h:(0:Int) < j
 ·rw [if_pos h]
  have e:j+c - 1=(j - 0 - 1)+c * 1:=by omega
  rw [e,Int.add_mul_ediv_left _ _ (by omega)]
 ·rw [if_neg h]
  have e:j=0:=by omega
  subst e
  rw [Int.ediv_eq_zero_of_lt (by omega) (by omega)]
theorem vals3 {x y z:V}{us:List Value}(r:Vals [x,y,z] us):∃u v w',us=[u,v,w']∧RelV x u∧RelV y v∧RelV z w':=by
 cases r with
 | cons r1 r=>cases r with
  | cons r2 r=>cases r with
   | cons r3 r=>cases r;exact ⟨_,_,_,rfl,r1,r2,r3⟩
theorem zfB {j c:Int}(h0:0≤j)(h1:j < 2 ^ 60)(hc:0 < c)(hc2:c < 1000):Builtin.Range.small 0 j c=true:=by
 have b1:(j+c - 1) / c≤j+c - 1:=Int.ediv_le_self _ (by omega)
 have b2:0≤(j+c - 1) / c:=Int.ediv_nonneg (by omega) (by omega)
 unfold Builtin.Range.small
 rw [zd2 h0 hc]
 simp only [Builtin.Range.rangeFitsLong,Bool.and_eq_true,Bool.or_eq_true,decide_eq_true_eq,beq_iff_eq]
 generalize (j+c - 1) / c=d at b1 b2 ⊢
 have hc':c > 0:=hc
 simp only [hc',if_true,Bool.and_eq_true,decide_eq_true_eq]
 omega
theorem zhy {tg a b c:Expr}{ta:TA}{p pos:Pos}(hg:Gl X "range") (hm:X.mg "range" =none) (ha:PA X [a,b,c] ta) (hs:starEach [a,b,c] X.env=[(false,eval a X.env),(false,eval b X.env),(false,eval c X.env)]:=by rfl)
  (hs2:starEach [b,c] X.env=[(false,eval b X.env),(false,eval c X.env)]:=by rfl):PI X tg (.Call (.Name "range" p) [a,b,c] [] pos) (zmt ta):=by
 intro pins s σ H R I h
 refine Call_ (zdd I hg hm boot_range (PyProof.Rows.callWith_type1 (thn (ha pos pins s σ H _ I h) fun us s1 ⟨vs,H1,I1,r1,q1⟩=>?_) (by rw [hs,hs2]) (by rw [hs2];rfl)))
 obtain ⟨j,c,rfl,h0,h1,hc,hc2,q⟩:=q1
 obtain ⟨u,v,w',rfl,⟨t1,rfl⟩,⟨t2,rfl⟩,⟨t3,rfl⟩⟩:=vals3 r1
 refine call_range_3 (by omega) ?_ (.inl (PyProof.noPylong_small (by omega)))
 refine wpAny_pyIter_range (IsRange.new ..) (zfB h0 h1 hc hc2) ?_
 have I2:Inv X pins σ H1 {s1 with heap:=s1.heap.push {cls:=.type "range",data:=.fields #[.int 0 t1,.int j t2,.int c t3]}}:=I1.kept (t':=s1.toks) fun b o e=>Heap.get?_push_of_some _ e
 refine ⟨_,[_],_,_,H1,rfl,I2.kept (t':=s1.toks) fun b o e=>Heap.get?_push_of_some _ e,zfX _ 0 c ((j+c - 1) / c).toNat,?_,fun b hb=>?_,q⟩
 ·have b2:0≤(j+c - 1) / c:=Int.ediv_nonneg (by omega) (by omega)
  have e1:(0:Int)+((0:Nat):Int) * c=0:=by simp
  have e2:(((((j+c - 1) / c).toNat:Nat):Int) - ((0:Nat):Int))=Builtin.Range.rangeSize 0 j c:=by rw [zd2 h0 hc];omega
  show IsRangeIter _ _ ((0:Int)+((0:Nat):Int) * c) (((((j+c - 1) / c).toNat:Nat):Int) - ((0:Nat):Int)) c
  rw [e1,e2]
  exact Heap.get?_push_size _ rfl
 ·have e:=List.mem_singleton.mp hb
  subst e
  exact I2.fpOk (Nat.le_refl _) (I2.hok.fresh (Nat.le_refl _))
end
end L2
namespace L2
open PySem PySem.Spec PyProof.Rows
def cutS (x:Str)(lo hi:Option Int):Str:=⟨((x.cps.toList.drop (HT.sIx x.length 0 lo)).take (HT.sIx x.length x.length hi - HT.sIx x.length 0 lo)).toArray⟩
theorem zjl (l:List Nat)(i k:Nat):(List.range k).filterMap (fun m=>l[i+m]?)=(l.drop i).take k:=by
 induction k with
 | zero=>simp
 | succ k ih=>
  rw [List.range_succ,List.filterMap_append,ih]
  by_cases h:i+k < l.length
  ·have e:l[i+k]? =some l[i+k]:=List.getElem?_eq_getElem h
   rw [List.take_add_one]
   simp [List.getElem?_drop,e]
  ·have e:l[i+k]? =none:=List.getElem?_eq_none (by omega)
   have e2:((l.drop i).take (k+1))=(l.drop i).take k:=by
    rw [List.take_of_length_le (by rw [List.length_drop];omega),List.take_of_length_le (by rw [List.length_drop];omega)]
   rw [e2]
   simp [e]
theorem zgU (lo hi:Option Int)(n:Nat):Builtin.Str.strSliceIndices lo hi 1 n=(List.range (HT.sIx n n hi - HT.sIx n 0 lo)).map fun k=>HT.sIx n 0 lo+k:=by
 have c0:∀(v:Int) (d:Nat),(max 0 (min (if v < 0 then v+(n:Int) else v) (n:Int)))=((HT.sIx n d (some v):Nat):Int):=fun v d=>by
  rw [←HT.clip_eq v n d]
  by_cases h:v < 0
  ·simp only [if_pos h];omega
  ·simp only [if_neg h];omega
 have key:∀a b:Nat,sliceRange (a:Int) (b:Int) 1=(List.range (b - a)).map fun k=>a+k:=fun a b=>by
  unfold sliceRange
  have e1:(if (1:Int) > 0 then (if (a:Int) < (b:Int) then ((b:Int) - (a:Int)+1 - 1) / 1 else 0) else (if (a:Int) > (b:Int) then ((a:Int) - (b:Int) - 1 - 1) / (-1) else 0)).toNat=b - a:=by
   rw [if_pos (by decide)]
   split
   ·rw [Int.ediv_one];omega
   ·omega
  show List.map _ (List.range (if (1:Int) > 0 then (if (a:Int) < (b:Int) then ((b:Int) - (a:Int)+1 - 1) / 1 else 0) else (if (a:Int) > (b:Int) then ((a:Int) - (b:Int) - 1 - 1) / (-1) else 0)).toNat)=_
  rw [e1]
  refine List.map_congr_left fun k _=>?_
  show ((a:Int)+1 * (k:Int)).toNat=a+k
  omega
 unfold Builtin.Str.strSliceIndices
 simp only [show (1:Int) > 0 by decide,if_true]
 cases lo with
 | none=>
  cases hi with
  | none=>exact key 0 n
  | some v=>dsimp only;rw [c0 v n];exact key 0 _
 | some u=>
  cases hi with
  | none=>dsimp only;rw [c0 u 0];exact key _ n
  | some v=>dsimp only;rw [c0 u 0,c0 v n];exact key _ _
theorem zhq (x:Str)(lo hi:Option Int):Txt.slice x lo hi=cutS x lo hi:=by
 have h1:=HT.sIx_le x.length 0 (Nat.zero_le _) lo
 have h2:=HT.sIx_le x.length x.length (Nat.le_refl _) hi
 have hn:x.cps.toList.length=x.length:=Array.length_toList
 have e:((Builtin.Str.strSliceIndices lo hi 1 x.length).filterMap (x.cps[·]?))=(x.cps.toList.drop (HT.sIx x.length 0 lo)).take (HT.sIx x.length x.length hi - HT.sIx x.length 0 lo):=by
  rw [zgU,List.filterMap_map,←zjl]
  refine congrArg (fun f=>List.filterMap f _) ?_
  funext m
  show x.cps[_]? =x.cps.toList[_]?
  rw [Array.getElem?_toList]
 unfold Txt.slice cutS
 split
 ·rename_i h
  have hl:(Builtin.Str.strSliceIndices lo hi 1 x.length).length=x.length:=by simpa using h
  rw [zgU,List.length_map,List.length_range] at hl
  have a0:HT.sIx x.length 0 lo=0∨x.length=0:=by omega
  rcases a0 with a0 | a0
  ·rw [a0,List.drop_zero,Nat.sub_zero,List.take_of_length_le (by omega)]
  ·have en:x.cps.toList=[]:=List.eq_nil_of_length_eq_zero (by omega)
   rw [en,List.drop_nil,List.take_nil]
   have:x.cps= #[]:=by rw [←Array.toList_inj];exact en
   rcases x with ⟨c⟩
   rw [show c= #[] from this]
 ·rw [e]
section
variable {X:Cx}
def rSlS:V→Option Int→Option Int→Hp→VK→Prop:=fun x lo hi H Q=>∃z,x=.str z∧z.length≤sizeLine∧Q (.str (cutS z lo hi)) H
theorem zla:SlR X rSlS:=by
 intro pins s σ H x v vl vu lo hi sl Q I rx hs pl pu h
 obtain ⟨z,rfl,hz,q⟩:=h
 obtain ⟨t,rfl⟩:=rx
 refine ⟨"str",_,F.slot_str_getitem.lookup,typeIs_str _ _ _,?_⟩
 have main:∀(l u:Option (Int ×Tok)),vl=partValue l→vu=partValue u→lo=l.map (·.1)→hi=u.map (·.1)→wpAny (model X.prog X.w) X.A (getItem (.str z t) (.ref sl)) (EP X pins σ Q) X.xe s:=fun l u e1 e2 e3 e4=>by
  subst e1 e2 e3 e4
  refine wpAny_getItem_str_slice (l:=l) (u:=u) (st:=none) hs rfl (post_val_or_str ⟨Nat.le_trans (Txt.slice_le z _ _) hz,fun t' k=>?_⟩)
  show EP X pins σ Q (.str (Txt.slice z (l.map (·.1)) (u.map (·.1))) t') _
  rw [zhq]
  exact ⟨.str _,H,I.tok k,⟨_,rfl⟩,q⟩
 cases pl with
 | none=>
  cases pu with
  | none=>exact main none none rfl rfl rfl rfl
  | int j u=>exact main none (some (j,u)) rfl rfl rfl rfl
 | int i t'=>
  cases pu with
  | none=>exact main (some (i,t')) none rfl rfl rfl rfl
  | int j u=>exact main (some (i,t')) (some (j,u)) rfl rfl rfl rfl
end
end L2
namespace L2
open PySem PySem.Spec PyProof.Rows
structure Dfn (K:PySem.W.Frag)(mg:Str→Option Value)(x:Str)(st:Stmt)(ps:List Str):Prop where
 ex:∃f fd,Fun K x x st f fd∧Binds K fd ps []∧mg x=some (.ref f)
structure Fn (P:Program)(w:World)(K:PySem.W.Frag)(mg:Str→Option Value)(base:Heap)(x:Str)(k:Nat)(ps:List Str)(sp:Sp):Prop where
 ex:∃f fd,FnOk P w K mg base CX0 k f fd ps sp∧Binds K fd ps []∧PySem.W.keepIn K (.ref f)=true∧mg x=some (.ref f)
section
variable {P:Program}{w:World}{K:PySem.W.Frag}{mg:Str→Option Value}{base:Heap}{x:Str}{st:Stmt}{ps N:List Str}{sp sp':Sp}{k:Nat}
theorem Fn.mono {j:Nat}(F:Fn P w K mg base x j ps sp)(h:j≤k):Fn P w K mg base x k ps sp:=by
 obtain ⟨f,fd,a,b⟩:=F.ex
 exact ⟨f,fd,a.mono h,b⟩
theorem Fn.imp (F:Fn P w K mg base x k ps sp)(h:∀vs H Q E,sp' vs H Q E→sp vs H Q E):Fn P w K mg base x k ps sp':=by
 obtain ⟨f,fd,a,b⟩:=F.ex
 exact ⟨f,fd,a.imp h,b⟩
theorem Dfn.ok (D:Dfn K mg x st ps)(S:zm N ps (zg st))(len:∀vs H Q E,sp vs H Q E→vs.length=ps.length)
  (hbody:∀(f:Addr) (cdv:Value) (A:Around) (outer:List Env) (s:Shared) (H:Hp) (vs:List V) (Q:VK) (E:XK),Room k (A.deeper (envOfC x (zg st) s.heap.objs.size f cdv))→sp vs H Q E→
   ∃t,PSs (cxOf CX0 P w K mg base N x (zg st) f cdv A outer s H E).nox (zN st) t∧t {nx:=fun _ H'=>Q .non H',rt:=Q} (start N vs) H):Fn P w K mg base x (k+1) ps sp:=by
 obtain ⟨f,fd,F,b,m⟩:=D.ex
 exact ⟨f,fd,F.ok S len (fun cdv A outer s H vs Q E hr h=>hbody f cdv A outer s H vs Q E hr h),b,F.kp,m⟩
theorem Dfn.never (D:Dfn K mg x st ps)(no:∀vs H Q E,¬sp vs H Q E):Fn P w K mg base x k ps sp:=by
 obtain ⟨f,fd,F,b,m⟩:=D.ex
 exact ⟨f,fd,⟨fun vs H Q E h=>absurd h (no vs H Q E),fun A outer s H args us vs Q E _ _ _ _ h=>absurd h (no vs H Q E)⟩,b,F.kp,m⟩
end
section
variable {X:Cx}{x:Str}{ps:List Str}{sp:Sp}{k k':Nat}{e:Expr}{es:List Expr}{t:TA}{p pos:Pos}
theorem zw (F:Fn X.prog X.w X.K X.mg X.base x k ps sp)(hr:Room k' X.A)(hle:k≤k')(hg:Gl X x)(ha:PA X (e::es) t)(hd:(x==("__debug__" :Str))=false:=by decide)
  (he:starEach (e::es) X.env=(false,eval e X.env)::starEach es X.env:=by rfl) (hpl:∀pos,(backTo pos (starEach es X.env)).any (·.1)=false:=by intro _;rfl):PE X (.Call (.Name x p) (e::es) [] pos) (zg6 sp [] E0 t):=by
 obtain ⟨f,fd,a,b,kp,m⟩:=F.ex
 exact zhb a (hr.mono hle) hg m kp b .nil zjg ha hd he (hpl _)
end
section
variable {X:Cx}
end
end L2
namespace Pv
open PySem L2
inductive Th where
 | non
 | int (i:Int)
 | str (x:Str)
 | tup (ts:List Th)
mutual
def nodes:Th→Nat
 | .non=>1
 | .int _=>1
 | .str _=>1
 | .tup ts=>1+zbi ts
def zbi:List Th→Nat
 | []=>0
 | t::r=>nodes t+zbi r
end
mutual
def dep:Th→Nat
 | .non=>0
 | .int _=>0
 | .str _=>0
 | .tup ts=>depL ts+1
def depL:List Th→Nat
 | []=>0
 | t::r=>max (dep t) (depL r)
end
def Sign (c:Nat):Prop:=32≤c∧c≤126∧c≠37
def zgX (x:Str):Prop:=x.length≤60∧∀c∈x.cps.toList,Sign c
mutual
def Wf:Th→Prop
 | .non=>True
 | .int i=> -(10 ^ 30)≤i∧i≤10 ^ 30
 | .str x=>zgX x
 | .tup ts=>ts.length≤40∧WfL ts
def WfL:List Th→Prop
 | []=>True
 | t::r=>Wf t∧WfL r
end
theorem WfL.get:∀{ts:List Th} {i:Nat} {t:Th},WfL ts→ts[i]? =some t→Wf t
 | [],_,_,_,e=>by simp at e
 | u::r,0,t,h,e=>by simp at e;subst e;exact h.1
 | u::r,i+1,t,h,e=>WfL.get (i:=i) h.2 (by simpa using e)
theorem WfL.snoc:∀{ts:List Th} {t:Th},WfL ts→Wf t→WfL (ts++ [t])
 | [],_,_,h=>⟨h,trivial⟩
 | _::_,_,h,h'=>⟨h.1,WfL.snoc h.2 h'⟩
theorem zbQ:∀{ts:List Th} {i:Nat} {t:Th},ts[i]? =some t→dep t≤depL ts
 | [],_,_,e=>by simp at e
 | u::r,0,t,e=>by simp at e;subst e;exact Nat.le_max_left _ _
 | u::r,i+1,t,e=>Nat.le_trans (zbQ (i:=i) (by simpa using e)) (Nat.le_max_right _ _)
inductive Rep (H:Hp):Th→V→Prop where
 | non:Rep H .non .non
 | int (i:Int):Rep H (.int i) (.int i)
 | str (x:Str):Rep H (.str x) (.str x)
 | tup {a:Addr} {xs:List V} {ts:List Th} (e:H a=some (.tup xs)) (l:xs.length=ts.length) (h:∀(i:Nat) (x:V) (t:Th),xs[i]? =some x→ts[i]? =some t→Rep H t x):Rep H (.tup ts) (.ref a)
def Tups (H H':Hp):Prop:=∀b xs,H b=some (.tup xs)→H' b=some (.tup xs)
theorem Rep.keep {H H':Hp}{t:Th}{v:V}(r:Rep H t v)(k:Tups H H'):Rep H' t v:=by
 induction r with
 | non=>exact .non
 | int i=>exact .int i
 | str x=>exact .str x
 | tup e l h ih=>exact .tup (k _ _ e) l ih
def Frm (ws:List Addr)(H H':Hp):Prop:=∀b o,b∉ws→H b=some o→H' b=some o
theorem Frm.refl {ws:List Addr}{H:Hp}:Frm ws H H:=fun _ _ _ h=>h
theorem Frm.trans {ws:List Addr}{H H1 H2:Hp}(a:Frm ws H H1)(b:Frm ws H1 H2):Frm ws H H2:=fun c o n h=>b c o n (a c o n h)
theorem Frm.mono {ws ws':List Addr}{H H1:Hp}(a:Frm ws H H1)(h:∀b∈ws,b∈ws'):Frm ws' H H1:=fun c o n e=>a c o (fun z=>n (h c z)) e
theorem Frm.new {ws:List Addr}{H:Hp}{p:Addr}{o:HO}(h:H p=none):Frm ws H (upd H p o):=fun b u _ q=>by rw [zj (zh q h)];exact q
theorem Frm.upd {ws:List Addr}{H:Hp}{p:Addr}{o:HO}(h:p∈ws):Frm ws H (upd H p o):=fun b u n q=>by rw [zj (fun z=>n (by rw [z];exact h))];exact q
theorem Frm.same {H H':Hp}(a:Frm [] H H'):Same H H':=fun b o h=>a b o (by simp) h
theorem Frm.of {ws:List Addr}{H H':Hp}(a:Same H H'):Frm ws H H':=fun b o _ h=>a b o h
theorem Frm.at {ws:List Addr}{H H':Hp}{b:Addr}{o:HO}(a:Frm ws H H')(h:H b=some o)(n:b∉ws):H' b=some o:=a b o n h
def NoT (ws:List Addr)(H:Hp):Prop:=∀b∈ws,∀xs,H b≠some (.tup xs)
theorem Frm.tups {ws:List Addr}{H H':Hp}(a:Frm ws H H')(n:NoT ws H):Tups H H':=fun b xs e=>a b _ (fun z=>n b z xs e) e
theorem Same.tups {H H':Hp}(a:Same H H'):Tups H H':=fun b xs e=>a b _ e
theorem Tups.trans {H H1 H2:Hp}(a:Tups H H1)(b:Tups H1 H2):Tups H H2:=fun c xs e=>b c xs (a c xs e)
theorem Tups.upd {H:Hp}{p:Addr}{o:HO}(h:∀xs,H p≠some (.tup xs)):Tups H (upd H p o):=fun b xs e=>by rw [zj (fun z=>h xs (by rw [←z];exact e))];exact e
theorem Tups.new {H:Hp}{p:Addr}{o:HO}(h:H p=none):Tups H (L2.upd H p o):=Tups.upd fun xs e=>by rw [h] at e;cases e
def zfw (H:Hp)(row:Addr):Prop:=∃a m:Int,H row=some (.lst [.int a,.int m])∧(m=0∨(m=1∧0≤a∧a < 536870909))
theorem zfw.keep {H H':Hp}{row:Addr}{ws:List Addr}(r:zfw H row)(f:Frm ws H H')(n:row∉ws):zfw H' row:=by
 obtain ⟨a,m,e,h⟩:=r
 exact ⟨a,m,f row _ n e,h⟩
theorem zfw.noT {H:Hp}{row:Addr}(r:zfw H row)(xs:List V):H row≠some (.tup xs):=by
 obtain ⟨a,m,e,h⟩:=r
 rw [e];intro z;cases z
end Pv
namespace L2
open PySem PySem.Spec PyProof.Rows
section
variable {X:Cx}{x y:Str}{scope:Scope}{j:Nat}{c:Addr}
theorem zcp {env:Env}{p:Str ×NameKind}(h:p∈(relabel scope env).names):∃q∈scope.names,p.1=q.1∧(p=q∨q.2=.free):=by
 obtain ⟨q,hq,e⟩:=List.mem_map.mp h
 obtain ⟨n,k⟩:=q
 refine ⟨(n,k),hq,?_⟩
 dsimp only at e
 split at e
 ·rename_i hc
  subst e
  refine ⟨rfl,.inr ?_⟩
  have:=(Bool.and_eq_true _ _).mp ((Bool.and_eq_true _ _).mp hc).1
  simpa using this.1
 ·subst e
  exact ⟨rfl,.inl rfl⟩
theorem z6.zero (kind:scope.kind=.function)(nf:∀y∈scope.names,y.2≠ .free)(nc:∀y∈scope.names,y.2≠ .cell)(nm:∀y∈scope.names,y.2=.local→scope.names.lookup y.1=some .local)(tgt:scope.names.lookup x=some .local):
  z6 X x [] [] scope [] where
 clos:=closureFor_none nf
 kind:=kind
 nocell:=nc
 names:=nm
 tgt:=tgt
 nd:=by simp
 sub:=fun p hp=>by simp at hp
 has:=fun p hp hk=>by
  obtain ⟨q,hq,e,h | h⟩:=zcp hp
  ·subst h
   rcases hk with hk | hk
   ·exact absurd hk (nc _ hq)
   ·exact absurd hk (nf _ hq)
  ·exact absurd h (nf _ hq)
 fr:=fun i y e=>by simp at e
 len:=rfl
theorem z6.one (clos:closureFor scope X.env=pure [(y,c)])(kind:scope.kind=.function)(nc:∀y∈scope.names,y.2≠ .cell)(nm:∀y∈scope.names,y.2=.local→scope.names.lookup y.1=some .local)(tgt:scope.names.lookup x=some .local)
  (ne:x≠y) (cell:X.env.cells.lookup y=some c) (only:∀q∈scope.names,q.2=.free→q.1=y) (hN:X.N[j]? =some y) (hk:X.env.kindOf y=some .cell∨X.env.kindOf y=some .free)
  (hk':(relabel scope X.env).names.lookup y=some .cell∨(relabel scope X.env).names.lookup y=some .free):z6 X x [y] [j] scope [(y,c)] where
 clos:=clos
 kind:=kind
 nocell:=nc
 names:=nm
 tgt:=tgt
 nd:=by simp [ne]
 sub:=fun p hp=>by
  cases List.mem_singleton.mp hp
  exact cell
 has:=fun p hp hk=>by
  obtain ⟨q,hq,e,h | h⟩:=zcp hp
  ·subst h
   rcases hk with hk | hk
   ·exact absurd hk (nc _ hq)
   ·simp [only _ hq hk]
  ·simp [e,only _ hq h]
 fr:=fun i z e=>by
  cases i with
  | zero=>cases e;exact ⟨j,rfl,hN,hk,hk'⟩
  | succ i=>simp at e
 len:=rfl
end
theorem ifT {c:Bool}{A B:Prop}(h:c=true)(a:A):if c=true then A else B:=by rw [if_pos h];exact a
theorem ifF {c:Bool}{A B:Prop}(h:c=false)(b:B):if c=true then A else B:=by rw [if_neg (by rw [h];exact Bool.false_ne_true)];exact b
theorem ifB {c:Bool}{A B:Prop}(a:c=true→A)(b:c=false→B):if c=true then A else B:=by
 cases c with
 | true=>exact ifT rfl (a rfl)
 | false=>exact ifF rfl (b rfl)
theorem zan {i j:Int}:decide (V.int i=V.int j)=decide (i=j):=by
 by_cases h:i=j
 ·subst h;simp
 ·rw [decide_eq_false h];exact decide_eq_false fun z=>h (V.int.inj z)
end L2
namespace L2
open PySem PySem.Spec PyProof.Rows
section
variable {X:Cx}{K:PySem.W.Frag}
end
end L2
namespace L2
open PySem PySem.Spec PyProof.Rows
section
variable {X:Cx}{x:Str}{ps:List Str}{sp:Sp}{k k':Nat}{p pos:Pos}
end
end L2
namespace L2
open PySem PySem.Spec PyProof.Rows Px
structure FnX (P:Program)(w:World)(K:PySem.W.Frag)(mg:Str→Option Value)(base:Heap)(x:Str)(k:Nat)(ps:List Str)(sp:Sp):Prop where
 ex:∃f fd,FnOk P w K mg base (CX1 P w) k f fd ps sp∧Binds K fd ps []∧PySem.W.keepIn K (.ref f)=true∧mg x=some (.ref f)
structure Mdf (K:PySem.W.Frag)(C:Addr)(m qual:Str)(st:Stmt)(ps:List Str):Prop where
 ex:∃f fd,Fun K m qual st f fd∧Binds K fd ps []∧Meth K C m f
structure Mt (P:Program)(w:World)(K:PySem.W.Frag)(mg:Str→Option Value)(base:Heap)(CX:CXT)(C:Addr)(m:Str)(k:Nat)(ps:List Str)(sp:Sp):Prop where
 ex:∃f fd,FnOk P w K mg base CX k f fd ps sp∧Binds K fd ps []∧Meth K C m f
structure Mkd (K:PySem.W.Frag)(mg:Str→Option Value)(x:Str)(C:Addr)(qual:Str)(st:Stmt)(ps:List Str):Prop where
 ex:∃f fd,Fun K "__init__" qual st f fd∧Binds K fd ps []∧Mk K C f∧mg x=some (.ref C)
structure Mkr (P:Program)(w:World)(K:PySem.W.Frag)(mg:Str→Option Value)(base:Heap)(x:Str)(C:Addr)(k:Nat)(ps:List Str)(sp:Sp):Prop where
 ex:∃f fd,FnOk P w K mg base CX0 k f fd ps sp∧Binds K fd ps []∧Mk K C f∧mg x=some (.ref C)
structure XId (K:PySem.W.Frag)(mg:Str→Option Value)(x:Str)(C:Addr)(qual:Str)(st:Stmt)(ps:List Str):Prop where
 cl:XCls K C
 ex:∃f fd,Fun K "__init__" qual st f fd∧Binds K fd ps []∧PySem.W.findIn K (.ref C) "__init__" =some (some (.ref f))∧PySem.W.isFn K (.ref f)=true∧mg x=some (.ref C)
structure XI (P:Program)(w:World)(K:PySem.W.Frag)(mg:Str→Option Value)(base:Heap)(x:Str)(C:Addr)(k:Nat)(ps:List Str)(sp:Sp):Prop where
 cl:XCls K C
 ex:∃f fd,FnOk P w K mg base CX0 k f fd ps sp∧Binds K fd ps []∧PySem.W.findIn K (.ref C) "__init__" =some (some (.ref f))∧PySem.W.isFn K (.ref f)=true∧mg x=some (.ref C)
structure XP (K:PySem.W.Frag)(mg:Str→Option Value)(x:Str)(C:Addr):Prop where
 cl:XCls K C
 ei:PySem.W.excIn K C bmV "ValueError.__new__" =true
 mg:mg x=some (.ref C)
section
variable {P:Program}{w:World}{K:PySem.W.Frag}{mg:Str→Option Value}{base:Heap}{x m qual:Str}{C:Addr}{st:Stmt}{ps N:List Str}{sp sp':Sp}{k:Nat}{CX:CXT}
theorem FnX.mono {j:Nat}(F:FnX P w K mg base x j ps sp)(h:j≤k):FnX P w K mg base x k ps sp:=by
 obtain ⟨f,fd,a,b⟩:=F.ex
 exact ⟨f,fd,a.mono h,b⟩
theorem Dfn.okX (D:Dfn K mg x st ps)(S:zm N ps (zg st))(len:∀vs H Q E,sp vs H Q E→vs.length=ps.length)
  (hbody:∀(f:Addr) (cdv:Value) (A:Around) (outer:List Env) (s:Shared) (H:Hp) (vs:List V) (Q:VK) (E:XK),Room k (A.deeper (envOfC x (zg st) s.heap.objs.size f cdv))→sp vs H Q E→
   ∃t,PSs (cxOf (CX1 P w) P w K mg base N x (zg st) f cdv A outer s H E) (zN st) t∧t {nx:=fun _ H'=>Q .non H',rt:=Q} (start N vs) H):FnX P w K mg base x (k+1) ps sp:=by
 obtain ⟨f,fd,F,b,m⟩:=D.ex
 exact ⟨f,fd,F.okX S len (fun cdv A outer s H vs Q E hr h=>hbody f cdv A outer s H vs Q E hr h),b,F.kp,m⟩
theorem Mdf.ok (D:Mdf K C m qual st ps)(S:zm N ps (zg st))(len:∀vs H Q E,sp vs H Q E→vs.length=ps.length)
  (hbody:∀(f:Addr) (cdv:Value) (A:Around) (outer:List Env) (s:Shared) (H:Hp) (vs:List V) (Q:VK) (E:XK),Room k (A.deeper (envOfC qual (zg st) s.heap.objs.size f cdv))→sp vs H Q E→
   ∃t,PSs (cxOf CX0 P w K mg base N qual (zg st) f cdv A outer s H E).nox (zN st) t∧t {nx:=fun _ H'=>Q .non H',rt:=Q} (start N vs) H):Mt P w K mg base CX0 C m (k+1) ps sp:=by
 obtain ⟨f,fd,F,b,me⟩:=D.ex
 exact ⟨f,fd,F.ok S len (fun cdv A outer s H vs Q E hr h=>hbody f cdv A outer s H vs Q E hr h),b,me⟩
theorem Mdf.okX (D:Mdf K C m qual st ps)(S:zm N ps (zg st))(len:∀vs H Q E,sp vs H Q E→vs.length=ps.length)
  (hbody:∀(f:Addr) (cdv:Value) (A:Around) (outer:List Env) (s:Shared) (H:Hp) (vs:List V) (Q:VK) (E:XK),Room k (A.deeper (envOfC qual (zg st) s.heap.objs.size f cdv))→sp vs H Q E→
   ∃t,PSs (cxOf (CX1 P w) P w K mg base N qual (zg st) f cdv A outer s H E) (zN st) t∧t {nx:=fun _ H'=>Q .non H',rt:=Q} (start N vs) H):Mt P w K mg base (CX1 P w) C m (k+1) ps sp:=by
 obtain ⟨f,fd,F,b,me⟩:=D.ex
 exact ⟨f,fd,F.okX S len (fun cdv A outer s H vs Q E hr h=>hbody f cdv A outer s H vs Q E hr h),b,me⟩
theorem Mkd.ok (D:Mkd K mg x C qual st ps)(S:zm N ps (zg st))(len:∀vs H Q E,sp vs H Q E→vs.length=ps.length)
  (hbody:∀(f:Addr) (cdv:Value) (A:Around) (outer:List Env) (s:Shared) (H:Hp) (vs:List V) (Q:VK) (E:XK),Room k (A.deeper (envOfC qual (zg st) s.heap.objs.size f cdv))→sp vs H Q E→
   ∃t,PSs (cxOf CX0 P w K mg base N qual (zg st) f cdv A outer s H E).nox (zN st) t∧t {nx:=fun _ H'=>Q .non H',rt:=Q} (start N vs) H):Mkr P w K mg base x C (k+1) ps sp:=by
 obtain ⟨f,fd,F,b,mk,mm⟩:=D.ex
 exact ⟨f,fd,F.ok S len (fun cdv A outer s H vs Q E hr h=>hbody f cdv A outer s H vs Q E hr h),b,mk,mm⟩
theorem XId.ok (D:XId K mg x C qual st ps)(S:zm N ps (zg st))(len:∀vs H Q E,sp vs H Q E→vs.length=ps.length)
  (hbody:∀(f:Addr) (cdv:Value) (A:Around) (outer:List Env) (s:Shared) (H:Hp) (vs:List V) (Q:VK) (E:XK),Room k (A.deeper (envOfC qual (zg st) s.heap.objs.size f cdv))→sp vs H Q E→
   ∃t,PSs (cxOf CX0 P w K mg base N qual (zg st) f cdv A outer s H E).nox (zN st) t∧t {nx:=fun _ H'=>Q .non H',rt:=Q} (start N vs) H):XI P w K mg base x C (k+1) ps sp:=by
 obtain ⟨c,f,fd,F,b,i,n,mm⟩:=D
 exact ⟨c,f,fd,F.ok S len (fun cdv A outer s H vs Q E hr h=>hbody f cdv A outer s H vs Q E hr h),b,i,n,mm⟩
end
section
variable {X:Cx}{CX:CXT}{x m:Str}{C:Addr}{ps:List Str}{sp:Sp}{k k':Nat}{e o:Expr}{es:List Expr}{ta:TE}{t:TA}{p pos apos:Pos}{E:XK}{ES:St→XK}
theorem zO (F:FnX X.prog X.w X.K X.mg X.base x k ps sp)(hr:Room k' X.A)(hle:k≤k')(hg:Gl X x)(hx:zby (CX1 X.prog X.w) X E)(ha:PA X (e::es) t)(hd:(x==("__debug__" :Str))=false:=by decide)
  (he:starEach (e::es) X.env=(false,eval e X.env)::starEach es X.env:=by rfl) (hpl:∀pos,(backTo pos (starEach es X.env)).any (·.1)=false:=by intro _;rfl):PE X (.Call (.Name x p) (e::es) [] pos) (zg6 sp [] E t):=by
 obtain ⟨f,fd,a,b,kp,m⟩:=F.ex
 exact zhb a (hr.mono hle) hg m kp b .nil hx ha hd he (hpl _)
theorem zjq (F:FnX X.prog X.w X.K X.mg X.base x k ps sp)(hr:Room k' X.A)(hle:k≤k')(hg:Gl X x)(hx:zca (CX1 X.prog X.w) X ES)(ha:PA X (e::es) t)(hd:(x==("__debug__" :Str))=false:=by decide)
  (he:starEach (e::es) X.env=(false,eval e X.env)::starEach es X.env:=by rfl) (hpl:∀pos,(backTo pos (starEach es X.env)).any (·.1)=false:=by intro _;rfl):PE X (.Call (.Name x p) (e::es) [] pos) (ziY sp ES t):=by
 obtain ⟨f,fd,a,b,kp,m⟩:=F.ex
 exact ziv a (hr.mono hle) hg m kp b hx ha hd he (hpl _)
theorem zhi {pl:Sem Bool}(he:PE X o ta)(c:Cls X.K C)(M:Mt X.prog X.w X.K X.mg X.base CX C m k ps sp)(hr:Room k' X.A)(hle:k≤k')(hx:zby CX X E)(ha:PA X (e::es) t)
  (hst:starEach (e::es) X.env=(false,eval e X.env)::starEach es X.env:=by rfl) (hpl:∀pos,(backTo pos (starEach es X.env)).any (·.1)=false:=by intro _;rfl)
  (ht:eval (.Call (.Attribute o m apos) (e::es) [] pos) X.env=(do
   let ov←eval o X.env
   standAt apos.atName
   let (f,first) ←holding [ov] (getMethod ov m pl)
   callWith pos f first (backTo pos (starEach (e::es) X.env)) (backToKw pos (keywordEach [] X.env))):=by rfl):
  PE X (.Call (.Attribute o m apos) (e::es) [] pos) (zk6 C m sp [] E ta t):=by
 obtain ⟨f,fd,a,b,me⟩:=M.ex
 exact zkj he c me a (hr.mono hle) b .nil hx ha hst (hpl _) ht
theorem zah (M:Mkr X.prog X.w X.K X.mg X.base x C k ps sp)(hr:Room k' X.A)(hle:k+1≤k')(hg:Gl X x)(ha:PA X (e::es) t)(hd:(x==("__debug__" :Str))=false:=by decide)
  (he:starEach (e::es) X.env=(false,eval e X.env)::starEach es X.env:=by rfl) (hpl:∀pos,(backTo pos (starEach es X.env)).any (·.1)=false:=by intro _;rfl):PE X (.Call (.Name x p) (e::es) [] pos) (ziO C sp [] E0 t):=by
 obtain ⟨f,fd,a,b,mk,mm⟩:=M.ex
 exact zgD mk a (hr.mono hle) hg mm b .nil zjg ha hd he (hpl _)
theorem zmE (M:XI X.prog X.w X.K X.mg X.base x C k ps sp)(hr:Room k' X.A)(hle:k+1≤k')(hg:Gl X x)(ha:PA X (e::es) t)(hd:(x==("__debug__" :Str))=false:=by decide)
  (he:starEach (e::es) X.env=(false,eval e X.env)::starEach es X.env:=by rfl) (hpl:∀pos,(backTo pos (starEach es X.env)).any (·.1)=false:=by intro _;rfl):PE X (.Call (.Name x p) (e::es) [] pos) (zkJ C sp t):=by
 obtain ⟨c,f,fd,a,b,i,n,mm⟩:=M
 exact zki c i n a (hr.mono hle) b hg mm ha hd he (hpl _)
theorem zgL (M:XP X.K X.mg x C)(hg:Gl X x)(ha:PA X (e::es) t)(hd:(x==("__debug__" :Str))=false:=by decide)
  (he:starEach (e::es) X.env=(false,eval e X.env)::starEach es X.env:=by rfl) (hpl:∀pos,(backTo pos (starEach es X.env)).any (·.1)=false:=by intro _;rfl):PE X (.Call (.Name x p) (e::es) [] pos) (tExc C t):=
 zlb M.cl M.ei hg M.mg ha hd he (hpl _)
end
end L2
namespace L2
open PySem PySem.Spec PyProof.Rows Px
def clsV:V→Value
 | .ty n=>.type n
 | .ref a=>.ref a
 | _=>.none
def Clss (ts:List V):Prop:=∀v∈ts,(∃n,v=.ty n)∨∃a,v=.ref a
theorem zeI:∀{ts:List V} {us:List Value},Clss ts→Vals ts us→us=ts.map clsV
 | _,_,_,.nil=>rfl
 | t::ts,u::us,h,.cons r q=>by
  rw [List.map_cons,←zeI (fun v hv=>h v (.tail _ hv)) q]
  congr 1
  rcases h t (.head _) with ⟨n,e⟩ | ⟨a,e⟩
  ·subst e;exact r
  ·subst e;exact r
section
variable {X:Cx}{pins:List (Addr ×Obj)}{σ:St}{H:Hp}{s:Shared}
end
section
variable {X:Cx}
def zna (K:PySem.W.Frag):List V→Hp→VK→Prop:=fun xs H Q=>∃x p ts t b,xs=[x,.ref p]∧H p=some (.tup ts)∧Clss ts∧TyOf K H x t∧PySem.W.kitAny K t (ts.map clsV)=some b∧Q (.bl b) H
end
end L2
namespace L2
open PySem PySem.Spec PyProof.Rows Px
section
variable {K:PySem.W.Frag}{h:Heap}{mg:Str→Option Value}{C f:Addr}{x m qual:Str}{st:Stmt}{ps:List Str}{od an:Option Addr}{sl:Array (Option Value)}{oc kV dc pm cd ct:Value}
theorem zb3 (a:PySem.W.findIn K (.ref C) m=some (some (.ref f)))(fn:PySem.W.isFn K (.ref f)=true)(l:K.lookup f=some ⟨oc,od,.func (PySem.W.fnOf m qual (zag st) (zN st) (zg st) .none kV dc pm an cd ct),sl⟩)(c:PySem.W.codeIn K cd qual=true)(k:PySem.W.keepIn K (.ref f)=true)
  (b:∀(kV doc pm:Value) (an:Option Addr) (cdv ct:Value) (us:List Value),us.length=ps.length→bindArgs (PySem.W.fnOf m qual (zag st) (zN st) (zg st) .none kV doc pm an cdv ct) ⟨us,[]⟩=pure (ps.zip us)):Mdf K C m qual st ps:=
 ⟨_,_,zbk l c k,(zbk l c k).binds b,⟨a,fn,k⟩⟩
theorem zcM (pg:PySem.W.plainGet K C Str.empty=true)(hd:PySem.W.hasDictIn K C=true)(po:PySem.W.plainOver K C=true)(sa:PySem.W.findIn K (.ref C) "__setattr__" =some (some (.builtin "object.__setattr__"))):Cls K C:=⟨pg,hd,po,sa⟩
theorem zcH (X:K.In h)(G:h.Ns mainGlobals mg)(n:PySem.W.nsIn K mainGlobals x=some (some (.ref C)))(mk:PySem.W.makesIn K C=true)(a:PySem.W.findIn K (.ref C) "__init__" =some (some (.ref f))) (fn:PySem.W.isFn K (.ref f)=true)
  (l:K.lookup f=some ⟨oc,od,.func (PySem.W.fnOf "__init__" qual (zag st) (zN st) (zg st) .none kV dc pm an cd ct),sl⟩) (c:PySem.W.codeIn K cd qual=true) (k:PySem.W.keepIn K (.ref f)=true) (kc:PySem.W.keepIn K (.ref C)=true)
  (b:∀(kV doc pm:Value) (an:Option Addr) (cdv ct:Value) (us:List Value),us.length=ps.length→bindArgs (PySem.W.fnOf "__init__" qual (zag st) (zN st) (zg st) .none kV doc pm an cdv ct) ⟨us,[]⟩=pure (ps.zip us)):Mkd K mg x C qual st ps:=
 ⟨_,_,zbk l c k,(zbk l c k).binds b,⟨mk,a,fn,kc⟩,PySem.W.mg_of X G n⟩
theorem zdI (q:xIn K C=true)(ov:zcY K C=true)(sa:PySem.W.findIn K (.ref C) "__setattr__" =some (some (.builtin "object.__setattr__"))) (ga:PySem.W.findIn K (.ref C) "__getattribute__" =some (some (.builtin "BaseException.__getattribute__"))) (gn:PySem.W.findIn K (.ref C) "__getattr__" =some none)
  (kp:PySem.W.keepIn K (.ref C)=true):XCls K C:=⟨q,ov,sa,ga,gn,kp⟩
theorem zlv (X:K.In h)(G:h.Ns mainGlobals mg)(n:PySem.W.nsIn K mainGlobals x=some (some (.ref C)))(cl:XCls K C)(a:PySem.W.findIn K (.ref C) "__init__" =some (some (.ref f))) (fn:PySem.W.isFn K (.ref f)=true)
  (l:K.lookup f=some ⟨oc,od,.func (PySem.W.fnOf "__init__" qual (zag st) (zN st) (zg st) .none kV dc pm an cd ct),sl⟩) (c:PySem.W.codeIn K cd qual=true) (k:PySem.W.keepIn K (.ref f)=true)
  (b:∀(kV doc pm:Value) (an:Option Addr) (cdv ct:Value) (us:List Value),us.length=ps.length→bindArgs (PySem.W.fnOf "__init__" qual (zag st) (zN st) (zg st) .none kV doc pm an cdv ct) ⟨us,[]⟩=pure (ps.zip us)):XId K mg x C qual st ps:=
 ⟨cl,_,_,zbk l c k,(zbk l c k).binds b,a,fn,PySem.W.mg_of X G n⟩
theorem zar {R:Addr→Prop}(X:K.In h)(n:PySem.W.nsIn K mainGlobals x=some (some (.ref C)))(r:R C):∃C,R C:=⟨C,r⟩
end
end L2
namespace Px
open PySem PySem.W PySem.Builtin PySem.Builtin.ObjectAttr
theorem zkg {K:Frag}{C:Addr}{od:Option Obj}{name:Str}{a g:Value}(hc:(clsIn K C).isSome=true)(ha:findIn K (.ref C) name=some (some a))(hg:specialIn K a "__get__" =some (some g))
  (ht:takesIn K a=some true):findObj K C od name=some (.bind g a):=by
 obtain ⟨c,e⟩:=Option.isSome_iff_exists.mp hc
 unfold findObj
 rw [e,Option.bind_some,ha,Option.bind_some]
 simp [hg,ht]
section
variable {prog:Program}{w:World}{A:Around}{E:Value→Shared→Prop}{s:Shared}{K:Frag}{x D:Addr}{ox:Obj}{od:Option Obj}
theorem zi9 {Q:Option Value→Shared→Prop}(X:K.In s.heap)(I:InstAt s.heap x ox D od)(hp:zcY K D=true)
  (hga:findIn K (.ref D) "__getattribute__" =some (some (.builtin "BaseException.__getattribute__"))) (hgn:findIn K (.ref D) "__getattr__" =some none)
  (ha:findIn K (.ref D) "__class__" =some (some (.builtin "object.__class__"))) (hn:specialIn K (.builtin "object.__class__") "__get__" =some (some (.builtin "getset_descriptor.__get__")))
  (htk:takesIn K (.builtin "object.__class__")=some true) (hm:mroIn K D (.type "object")=some true) (h:Q (some (.ref D)) {s with toks:=s.toks+1}):wpAny (model prog w) A (getAttr? (.ref x) "__class__") Q E s:=by
 have isB:=zf9 (M:=model prog w) (T:= "BaseException") X I hp (by decide)
 have cd:(clsIn K D).isSome=true:=by obtain ⟨c,hc,_⟩:=any_some hp;rw [hc];rfl
 have hf:findObj K D od "__class__" =some (.bind (.builtin "getset_descriptor.__get__") (.builtin "object.__class__")):=zkg cd ha hn htk
 obtain ⟨hp',g,d,t,os⟩:=s
 have L0:=I.type (M:=model prog w)
 have L1:=looks_findIn (M:=model prog w) X hga
 have L2:=looks_findIn (M:=model prog w) X hgn
 have L3:=looks_find (M:=model prog w) X I hf
 have FB:=PySem.F.attrBase_ValueError
 have bi:=FB.ga.bind (.ref x)
 have kd:builtinKind "BaseException.__getattribute__" =some .slot:=by decide+kernel
 have sp:splitId "BaseException.__getattribute__" =some ("BaseException","__getattribute__"):=by decide+kernel
 unfold getAttr? getAttrBy? getAttrBy
 refine wpAny_bind (wpAny_mkText (wpAny_bind (wpAny_attempt (wpAny_holding (wpAny_bind (L0.at (wpAny_bind (L1.at ?_))))))))
 have nb:(onTheHeap (Value.ref D) && Value.builtin "BaseException.__getattribute__" ==Value.builtin "object.__getattribute__")=false:=by
  rw [show (Value.builtin "BaseException.__getattribute__" ==Value.builtin "object.__getattribute__")=false from by decide+kernel,Bool.and_false]
 dsimp only
 rw [nb,if_neg Bool.false_ne_true]
 unfold getAttrByItsOwn
 refine wpAny_bind ?_
 show wpAny _ _ (typeLookup (.ref D) "__getattr__") _ _ _
 refine L2.at ?_
 unfold callGetattribute
 rw [Bool.false_and,if_neg Bool.false_ne_true]
 unfold boundAndCalled
 refine wpAny_bind (wpAny_attempt (wpAny_holding ?_))
 rw [bi]
 refine wpAny_bind (wpAny_pure ?_)
 refine wpAny_call (codeAny_call_builtin FB.ga.plain PySem.F.entry_bexc_ga (@check_slot (model prog w) _ _ _ "BaseException.__getattribute__" "BaseException" "__getattribute__" (.ref x) [.str "__class__" t] [] _ kd sp isB (PySem.F.args_bexc_ga _ _) ?_))
 unfold Builtin.«object.__getattribute__»
 repeat (any_goals (first | assumption | with_reducible refine wpAny_bind (L0.at ?_) | with_reducible refine wpAny_bind (L3.at ?_) | wp_step))
 refine class_get X I hm ?_
 show wpAny _ _ (ret (.ref D)) _ _ _
 refine wpAny_pure ?_
 show wpAny _ _ (handedOut (.ref D)) _ _ _
 exact wpAny_pure (wpAny_pure h)
theorem zfL {K:Frag}{x D:Addr}{ox:Obj}{od:Option Obj}(hp:zcY K D=true)
  (hga:findIn K (.ref D) "__getattribute__" =some (some (.builtin "BaseException.__getattribute__"))) (hgn:findIn K (.ref D) "__getattr__" =some none)
  (ha:findIn K (.ref D) "__class__" =some (some (.builtin "object.__class__"))) (hn:specialIn K (.builtin "object.__class__") "__get__" =some (some (.builtin "getset_descriptor.__get__")))
  (htk:takesIn K (.builtin "object.__class__")=some true) (hm:mroIn K D (.type "object")=some true):KitX K (.ref x) (.ref D) (fun h=>InstAt h x ox D od) where
 ty:=fun _ _ _ I=>I.type
 it:=fun _ _ X _=>by
  obtain ⟨c,hc,_⟩:=any_some hp
  unfold clsIn at hc
  split at hc
  ·rename_i ho
   intro A' Q' E' s' k q
   unfold isType loadHead
   exact wpAny_bind (wpAny_loadPart (k _ _ (X _ _ ho)) (wpAny_pure q))
  ·cases hc
 ne:=fun h tp dd its n sl X ht=>by
  obtain ⟨c,hc,_⟩:=any_some hp
  refine Bool.eq_false_iff.mpr fun q=>?_
  have e:D=tp:=Value.ref.inj (beq_iff_eq.mp q)
  subst e
  unfold clsIn at hc
  split at hc
  ·rename_i ho
   have z:=(X _ _ ho).symm.trans ht
   cases z
  ·cases hc
 ca:=fun X I k=>zi9 X I hp hga hgn ha hn htk hm k
end
end Px
namespace L2
open PySem PySem.Spec PyProof.Rows Px
structure zi2 (K:PySem.W.Frag)(C:Addr):Prop where
 cl:XCls K C
 ha:PySem.W.findIn K (.ref C) "__class__" =some (some (.builtin "object.__class__"))
 hn:PySem.W.specialIn K (.builtin "object.__class__") "__get__" =some (some (.builtin "getset_descriptor.__get__"))
 ht:PySem.W.takesIn K (.builtin "object.__class__")=some true
 hm:PySem.W.mroIn K C (.type "object")=some true
section
variable {X:Cx}{pins:List (Addr ×Obj)}{σ:St}{H:Hp}{s:Shared}{a C:Addr}{od:Option Addr}{fr:Bool}
theorem zjQ (I:Inv X pins σ H s)(e:H a=some (exO a C od fr))(k:zi2 X.K C)(hd:∀d,od=some d→∃l,H d=some (xdO d l)):∃Z:Heap→Prop,PySem.W.KitX X.K (.ref a) (.ref C) Z∧Z s.heap:=by
 obtain ⟨vs,sl,ge,_⟩:=zbs I.hok e
 cases od with
 | none=>exact ⟨_,zfL (od:=none) k.cl.ov k.cl.ga k.cl.gn k.ha k.hn k.ht k.hm,⟨ge,rfl,rfl,trivial⟩⟩
 | some d=>
  obtain ⟨l,ed⟩:=hd d rfl
  obtain ⟨mA,ns,_,_⟩:=zeY I.hok ed
  obtain ⟨ob,hob,_⟩:=zc9 ns
  exact ⟨_,zfL (od:=some ob) k.cl.ov k.cl.ga k.cl.gn k.ha k.hn k.ht k.hm,⟨ge,rfl,rfl,hob⟩⟩
def zje (K:PySem.W.Frag):List V→Hp→VK→Prop:=fun xs H Q=>∃a C od fr y b,xs=[.ref a,y]∧H a=some (exO a C od fr)∧zi2 K C∧(∀d,od=some d→∃l,H d=some (xdO d l))∧Q (.bl b) H∧
 ((∃c,(y=.ty c∧PySem.W.kitOne K (.ref C) (.type c)=some b))∨(∃c,(y=.ref c∧PySem.W.kitOne K (.ref C) (.ref c)=some b))∨∃p ts,y=.ref p∧H p=some (.tup ts)∧Clss ts∧PySem.W.kitAny K (.ref C) (ts.map clsV)=some b)
theorem zfd:zaW X (.builtin "isinstance") (zje X.K):=by
 intro pins s σ H xs us Q I r h
 obtain ⟨a,C,od,fr,y,b,rfl,ea,k,hd,q,hy⟩:=h
 obtain ⟨u,w',rfl,ru,rw'⟩:=vals2 r
 cases (show u=Value.ref a from ru)
 obtain ⟨Z,kx,z⟩:=zjQ I ea k hd
 rcases hy with ⟨c,rfl,e⟩ | ⟨c,rfl,e⟩ | ⟨p,ts,rfl,ep,cl,e⟩
 ·cases (show w'=Value.type c from rw')
  exact PySem.W.kia_one kx I.kIn z e (fun y=>nomatch y) fun tk=>⟨.bl b,H,I.tok tk,rfl,q⟩
 ·cases (show w'=Value.ref c from rw')
  exact PySem.W.kia_one kx I.kIn z e (fun y=>nomatch y) fun tk=>⟨.bl b,H,I.tok tk,rfl,q⟩
 ·cases (show w'=Value.ref p from rw')
  obtain ⟨_,its,vs,o,h1,h2,n,h3⟩:=(show zY X.prog X.w H s.heap p (.tup ts) from I.hok p _ ep)
  have ei:=zeI cl vs
  obtain ⟨c0,d0,dt,sl⟩:=o
  dsimp only at h2 h3
  subst h2;subst h3
  exact PySem.W.kia_tup kx I.kIn z h1 (by rw [ei];exact e) (fun y=>nomatch y) fun tk=>⟨.bl b,H,I.tok tk,rfl,q⟩
end
section
variable {X:Cx}{x n:Str}{cv:Value}{body suite:List Stmt}{b₀:Stmt}{np hpos pos:Pos}{tb:(St→XK)→TS}{ts:TS}
end
end L2
namespace L2
open PySem PySem.Spec PyProof.Rows
section
variable {X:Cx}{x y1 y2:Str}{scope:Scope}{j1 j2:Nat}{c1 c2:Addr}
theorem z6.two (clos:closureFor scope X.env=pure [(y1,c1),(y2,c2)])(kind:scope.kind=.function)(nc:∀y∈scope.names,y.2≠ .cell)(nm:∀y∈scope.names,y.2=.local→scope.names.lookup y.1=some .local)(tgt:scope.names.lookup x=some .local)
  (n1:x≠y1) (n2:x≠y2) (n12:y1≠y2) (e1:X.env.cells.lookup y1=some c1) (e2:X.env.cells.lookup y2=some c2) (only:∀q∈scope.names,q.2=.free→q.1=y1∨q.1=y2) (h1:X.N[j1]? =some y1) (h2:X.N[j2]? =some y2)
  (k1:X.env.kindOf y1=some .cell∨X.env.kindOf y1=some .free) (k2:X.env.kindOf y2=some .cell∨X.env.kindOf y2=some .free)
  (r1:(relabel scope X.env).names.lookup y1=some .cell∨(relabel scope X.env).names.lookup y1=some .free) (r2:(relabel scope X.env).names.lookup y2=some .cell∨(relabel scope X.env).names.lookup y2=some .free):
  z6 X x [y1,y2] [j1,j2] scope [(y1,c1),(y2,c2)] where
 clos:=clos
 kind:=kind
 nocell:=nc
 names:=nm
 tgt:=tgt
 nd:=by simp [n1,n2,n12]
 sub:=fun p hp=>by
  rcases List.mem_cons.mp hp with z | z
  ·rw [z];exact e1
  ·rw [List.mem_singleton.mp z];exact e2
 has:=fun p hp hk=>by
  have key:∀q:Str ×NameKind,q∈scope.names→q.2=.free→q.1∈ [(y1,c1),(y2,c2)].map (·.1):=fun q hq z=>by
   rcases only q hq z with z | z <;> simp [z]
  obtain ⟨q,hq,e,h | h⟩:=zcp hp
  ·subst h
   rcases hk with hk | hk
   ·exact absurd hk (nc _ hq)
   ·exact key _ hq hk
  ·rw [e];exact key _ hq h
 fr:=fun i z e=>by
  match i,e with
  | 0,e=>cases e;exact ⟨j1,rfl,h1,k1,r1⟩
  | 1,e=>cases e;exact ⟨j2,rfl,h2,k2,r2⟩
  | i+2,e=>simp at e
 len:=rfl
end
end L2
namespace L2
open PySem PySem.Spec PyProof.Rows
section
variable {P:Program}{W:World}{A:Around}{E:Value→Shared→Prop}{z:Shared}
theorem zdN {j t:Addr}{n:Nat}{us:Array Value}{v:Value}{Q:Value→Shared→Prop}(hj:z.heap.IsTupleIter j t n)(ht:z.heap.IsTuple t us)(hv:us[n]? =some v)
  (q:∀g,g.IsTupleIter j t (n+1)→Heap.SameBut j z.heap g→Q v {z with heap:=g}):wpAny (model P W) A (Builtin.SmallTypes.nextOf (.ref j)) Q E z:=by
 obtain ⟨oj,ej,cj,dj⟩:=id hj;obtain ⟨ot,et,_,nt,dt⟩:=ht;unfold Builtin.SmallTypes.nextOf
 refine wpAny_bind (wpAny_callSpecial?_slot (name:=Str.ofString "__next__") hj.typeIs F.slot_tuple_iterator_next (wpAny_call_entry F.slot_tuple_iterator_next hj.typeIs F.entry_tuple_iterator_next ?_ (F.args_tuple_iterator_next_1 _)))
 show wpAny _ _ (field (.ref j) 0 >>=_) _ _ z;refine wpAny_bind (wpAny_field ej dj (x:=.ref t) rfl ?_)
 show wpAny _ _ (if (Value.ref t==Value.none)=true then _ else _) _ _ z;rw [if_neg (show¬((Value.ref t==Value.none)=true) from Bool.false_ne_true)]
 show wpAny _ _ (field (.ref j) 1 >>=_) _ _ z;refine wpAny_bind (wpAny_field ej dj (x:=.int n 0) rfl ?_)
 show wpAny _ _ (seqItems? (.ref t) >>=_) _ _ z;refine wpAny_bind (wpAny_seqItems et dt ?_);simp only [Int.toNat_natCast,hv]
 refine wpAny_bind (wpAny_setField ej dj (by simp) (wpAny_pure ⟨v,rfl,wpAny_pure (q _ ⟨_,Heap.get?_update_self _ ej (Obj.isFreed_of_fields (Obj.data_mapFields dj _)),(Obj.cls_mapFields ..).trans cj,by rw [Obj.data_mapFields dj];simp [rawInt]⟩ (Heap.SameBut.update ..))⟩))
theorem zfx {j t:Addr}{n:Nat}{us:Array Value}{Q:Value→Shared→Prop}(hh:A.handled=none)(hj:z.heap.IsTupleIter j t n)(ht:z.heap.IsTuple t us)(hv:us[n]? =none)
  (q:∀g e,Heap.ExtBut j z.heap g→(∃o,g.get? e=some o∧o.cls=.type "StopIteration")→E (.ref e) {z with heap:=g}):wpAny (model P W) A (Builtin.SmallTypes.nextOf (.ref j)) Q E z:=by
 obtain ⟨oj,ej,cj,dj⟩:=id hj;obtain ⟨ot,et,_,nt,dt⟩:=ht;unfold Builtin.SmallTypes.nextOf
 refine wpAny_bind (wpAny_callSpecial?_slot (name:=Str.ofString "__next__") hj.typeIs F.slot_tuple_iterator_next (wpAny_call_entry F.slot_tuple_iterator_next hj.typeIs F.entry_tuple_iterator_next ?_ (F.args_tuple_iterator_next_1 _)))
 show wpAny _ _ (field (.ref j) 0 >>=_) _ _ z;refine wpAny_bind (wpAny_field ej dj (x:=.ref t) rfl ?_)
 show wpAny _ _ (if (Value.ref t==Value.none)=true then _ else _) _ _ z;rw [if_neg (show¬((Value.ref t==Value.none)=true) from Bool.false_ne_true)]
 show wpAny _ _ (field (.ref j) 1 >>=_) _ _ z;refine wpAny_bind (wpAny_field ej dj (x:=.int n 0) rfl ?_)
 show wpAny _ _ (seqItems? (.ref t) >>=_) _ _ z;refine wpAny_bind (wpAny_seqItems et dt ?_);simp only [Int.toNat_natCast,hv]
 refine wpAny_bind (wpAny_rule (wpAny_bind (wpAny_setField ej dj (by simp) ?_)));show wpAny _ _ (newExc (.type "StopIteration") [] >>=_) _ _ _;refine wpAny_bind ?_;simp only [newExc,newTuple]
 refine wpAny_bind (wpAny_newObj_type ?_ (by size_fits));refine wpAny_bind (m:=firstArgMember _ _) (wpAny_of_eq (a:=Value.none) (by first | rfl | (simp only [firstArgMember];rfl)) ?_);refine wpAny_newObj_type ?_ (by size_fits);simp only [raiseNew]
 refine wpAny_bind (wpAny_handled ?_);first | rw [show A.in1.handled=none from hh] | rw [hh]
 refine wpAny_bind (wpAny_pure (wpAny_throw ?_));exact q _ _ (((Heap.SameBut.update ..).extBut.push _).push _) ⟨_,Heap.get?_push_size _ rfl,rfl⟩
structure ZSt (g:Heap)(y a o i k p q:Addr)(n:Nat)(xs us:Array Value)(f:Value):Prop where
 zp:IsZip g y a o f
 its:IsPair g a (.ref i) (.ref k)
 own:∃b c,IsPair g o b c
 i1:g.IsTupleIter i p n
 i2:g.IsTupleIter k q n
 t1:g.IsTuple p xs
 t2:g.IsTuple q us
theorem zjo {y a o i k p q:Addr}{n:Nat}{xs us:Array Value}{u v:Value}{Q:Option Value→Shared→Prop}(D:ZipApart y a o i k p q)(S:ZSt z.heap y a o i k p q n xs us .none)(hu:xs[n]? =some u)(hv:us[n]? =some v)
  (fin:∀g,ZSt g y a o i k p q (n+1) xs us (rawInt z.heap.objs.size)→IsPair g z.heap.objs.size u v→g.objs.size=z.heap.objs.size+1→(∀c r,c≠y→c≠o→c≠i→c≠k→z.heap.get? c=some r→g.get? c=some r)→Q (some (.ref z.heap.objs.size)) {z with heap:=g}):
  wpAny (model P W) A (pyNext (.ref y)) Q E z:=by
 obtain ⟨hz,ha,⟨b,c,ho⟩,hi,hk,hp,hq⟩:=S
 have tz:z.TypeIs (.ref y) "zip" :=⟨_,hz,rfl⟩
 have main:wpAny (model P W) A.in1 (Builtin.«zip.__next__» ⟨[.ref y],[]⟩) (fun r s'=>∃v,r=.done (.ret v)∧Q (some v) s') (fun e s'=>True∧False) z:=by
  show wpAny _ _ (field (.ref y) 2 >>=_) _ _ _;refine wpAny_bind (wpAny_field hz rfl (x:=.bool false) rfl ?_)
  show wpAny _ _ (field (.ref y) 3 >>=_) _ _ _;refine wpAny_bind (wpAny_field hz rfl (x:=.ref a) rfl ?_);refine wpAny_bind (wpAny_seqItems ha rfl ?_)
  show wpAny _ _ (Builtin.SmallTypes.ownedTupleIsFree (.ref y) >>=_) _ _ _;refine wpAny_bind ?_;unfold Builtin.SmallTypes.ownedTupleIsFree
  refine wpAny_bind (wpAny_field hz rfl (x:=.none) rfl (wpAny_pure ?_));simp only [if_true];refine wpAny_bind (wpAny_rule ?_);refine wpAny_bind (wpAny_field hz rfl (x:=.ref o) rfl ?_)
  refine wpAny_bind (wpAny_setField_rec hz (by simp) fun g1 hz1 s1=>?_);replace hz1:IsZip g1 y a o .ellipsis:=hz1;refine wpAny_bind ?_;simp only [List.zipIdx_cons,List.zipIdx_nil,List.forIn_cons,List.forIn_nil]
  refine wpAny_bind (wpAny_bind (wpAny_onRaise ?_));show wpAny _ _ (Builtin.SmallTypes.nextOf (.ref i) >>=_) _ _ _
  refine wpAny_bind (zdN (hi.extBut s1.extBut D.i1z) (hp.extBut s1.extBut D.l1z) hu fun g2 i2 s2=>wpAny_pure ?_)
  have ho2:IsPair g2 o b c:=s2.extBut _ _ D.TOi1 (s1.extBut _ _ D.TOz ho)
  refine wpAny_bind (wpAny_seqItems ho2 rfl ?_);refine wpAny_bind (wpAny_updateSeq_pair ho2 fun g3 ho3 s3=>?_);replace ho3:IsPair g3 o u c:=ho3;refine wpAny_bind (wpAny_letGo (wpAny_pure ?_))
  refine wpAny_bind (wpAny_bind (wpAny_onRaise ?_));show wpAny _ _ (Builtin.SmallTypes.nextOf (.ref k) >>=_) _ _ _
  refine wpAny_bind (zdN (((hk.extBut s1.extBut D.i2z).extBut s2.extBut D.i12.symm).extBut s3.extBut D.TOi2.symm) (((hq.extBut s1.extBut D.l2z).extBut s2.extBut D.l2i1).extBut s3.extBut D.l2TO) hv fun g4 k4 s4=>wpAny_pure ?_)
  have ho4:IsPair g4 o u c:=s4.extBut _ _ D.TOi2 ho3
  refine wpAny_bind (wpAny_seqItems ho4 rfl ?_);refine wpAny_bind (wpAny_updateSeq_pair ho4 fun g5 ho5 s5=>?_);replace ho5:IsPair g5 o u v:=ho5;refine wpAny_bind (wpAny_letGo (wpAny_pure (wpAny_pure ?_)))
  refine wpAny_bind (wpAny_seqItems ho5 rfl ?_);refine wpAny_bind (wpAny_newTuple ?_)
  have sz:g5.objs.size=z.heap.objs.size:=by rw [s5.1,s4.1,s3.1,s2.1,s1.1]
  have hz5:IsZip g5 y a o .ellipsis:=s5.extBut _ _ D.TOz.symm (s4.extBut _ _ D.i2z.symm (s3.extBut _ _ D.TOz.symm (s2.extBut _ _ D.i1z.symm hz1)))
  have up5:∀c r,c≠y→c≠o→c≠i→c≠k→z.heap.get? c=some r→g5.get? c=some r:=fun c r c1 c2 c3 c4 e=>s5.extBut _ _ c2 (s4.extBut _ _ c4 (s3.extBut _ _ c2 (s2.extBut _ _ c3 (s1.extBut _ _ c1 e))))
  have hi5:g5.IsTupleIter i p (n+1):=((i2.extBut s3.extBut D.TOi1.symm).extBut s4.extBut D.i12).extBut s5.extBut D.TOi1.symm
  have hk5:g5.IsTupleIter k q (n+1):=k4.extBut s5.extBut D.TOi2.symm
  have ly:y < g5.objs.size:=Heap.lt_size hz5
  show wpAny _ _ (Builtin.SmallTypes.ownedTupleHandOut (.ref y) (.ref g5.objs.size) >>=_) _ _ _;refine wpAny_bind ?_;unfold Builtin.SmallTypes.ownedTupleHandOut
  have hz6:IsZip (g5.push {cls:=.type "tuple",data:=.seq #[u,v]}) y a o .ellipsis:=Heap.get?_push_of_some _ hz5
  refine wpAny_bind (wpAny_setField_rec hz6 (by simp) fun g7 hz7 s7=>?_);replace hz7:IsZip g7 y a o (rawInt g5.objs.size):=hz7
  refine wpAny_setField_rec hz7 (by simp) fun g8 hz8 s8=>?_;replace hz8:IsZip g8 y a o (rawInt g5.objs.size):=hz8
  have up:∀c r,c≠y→g5.get? c=some r→g8.get? c=some r:=fun c r c1 e=>s8.extBut _ _ c1 (s7.extBut _ _ c1 (Heap.get?_push_of_some _ e))
  have new8:IsPair g8 g5.objs.size u v:=s8.extBut _ _ (Nat.ne_of_gt ly) (s7.extBut _ _ (Nat.ne_of_gt ly) (Heap.get?_push_size _ rfl))
  have sz8:g8.objs.size=g5.objs.size+1:=by rw [s8.1,s7.1,Heap.size_push]
  rw [sz] at hz8 new8 sz8
  refine wpAny_pure ⟨_,rfl,?_⟩;show Q (some (.ref g5.objs.size)) _;rw [sz]
  have upz:∀c r,c≠y→c≠o→c≠i→c≠k→z.heap.get? c=some r→g8.get? c=some r:=fun c r c1 c2 c3 c4 e=>up c r c1 (up5 c r c1 c2 c3 c4 e)
  refine fin g8 ⟨hz8,upz _ _ D.TIz D.TITO D.TIi1 D.TIi2 ha,⟨_,_,up _ _ D.TOz ho5⟩,?_,?_,?_,?_⟩ new8 sz8 upz
  ·obtain ⟨r,e,x⟩:=hi5;exact ⟨r,up _ r D.i1z e,x⟩
  ·obtain ⟨r,e,x⟩:=hk5;exact ⟨r,up _ r D.i2z e,x⟩
  ·obtain ⟨r,e,x⟩:=hp;exact ⟨r,upz _ r D.l1z D.l1TO D.l1i1 D.l1i2 e,x⟩
  ·obtain ⟨r,e,x⟩:=hq;exact ⟨r,upz _ r D.l2z D.l2TO D.l2i1 D.l2i2 e,x⟩
 unfold pyNext
 exact wpAny_bind (wpAny_attempt (wpAny_callSpecial?_slot (name:=Str.ofString "__next__") tz F.slot_zip_next (wpAny_call_entry F.slot_zip_next tz F.entry_zip_next (wpAny_mono main (fun r s' ⟨v,e,h⟩=>⟨v,e,wpAny_pure h⟩) fun _ _ x=>x.2.elim) (F.args_zip_next_1 _))))
theorem zjf {y a o i k p q:Addr}{n:Nat}{xs us:Array Value}{Q:Option Value→Shared→Prop}(hh:A.handled=none)(D:ZipApart y a o i k p q)(S:ZSt z.heap y a o i k p q n xs us .none)(he:xs[n]? =none∨us[n]? =none)
  (fin:∀g,(∀c r,c≠y→c≠o→c≠i→c≠k→z.heap.get? c=some r→g.get? c=some r)→Q none {z with heap:=g}):wpAny (model P W) A (pyNext (.ref y)) Q E z:=by
 obtain ⟨hz,ha,⟨b,c,ho⟩,hi,hk,hp,hq⟩:=S
 have tz:z.TypeIs (.ref y) "zip" :=⟨_,hz,rfl⟩
 have main:wpAny (model P W) A.in1 (Builtin.«zip.__next__» ⟨[.ref y],[]⟩) (fun _ _=>False) (fun e s'=>∃g x,e=.ref x∧s'={z with heap:=g}∧(∀c r,c≠y→c≠o→c≠i→c≠k→z.heap.get? c=some r→g.get? c=some r)∧∃r,g.get? x=some r∧r.cls=.type "StopIteration") z:=by
  show wpAny _ _ (field (.ref y) 2 >>=_) _ _ _;refine wpAny_bind (wpAny_field hz rfl (x:=.bool false) rfl ?_)
  show wpAny _ _ (field (.ref y) 3 >>=_) _ _ _;refine wpAny_bind (wpAny_field hz rfl (x:=.ref a) rfl ?_);refine wpAny_bind (wpAny_seqItems ha rfl ?_)
  show wpAny _ _ (Builtin.SmallTypes.ownedTupleIsFree (.ref y) >>=_) _ _ _;refine wpAny_bind ?_;unfold Builtin.SmallTypes.ownedTupleIsFree
  refine wpAny_bind (wpAny_field hz rfl (x:=.none) rfl (wpAny_pure ?_));simp only [if_true];refine wpAny_bind (wpAny_rule ?_);refine wpAny_bind (wpAny_field hz rfl (x:=.ref o) rfl ?_)
  refine wpAny_bind (wpAny_setField_rec hz (by simp) fun g1 hz1 s1=>?_);replace hz1:IsZip g1 y a o .ellipsis:=hz1;refine wpAny_bind ?_;simp only [List.zipIdx_cons,List.zipIdx_nil,List.forIn_cons,List.forIn_nil]
  refine wpAny_bind (wpAny_bind (wpAny_onRaise ?_));show wpAny _ _ (Builtin.SmallTypes.nextOf (.ref i) >>=_) _ _ _
  cases hu:xs[n]? with
  | none=>
   refine wpAny_bind (zfx (A:=A.in1) (show A.in1.handled=none from hh) (hi.extBut s1.extBut D.i1z) (hp.extBut s1.extBut D.l1z) hu fun g2 e s2 he2=>?_)
   obtain ⟨r,er,cr⟩:=he2
   have hz2:IsZip g2 y a o .ellipsis:=s2 _ _ D.i1z.symm hz1
   have ne:e≠y:=fun x=>by subst x;rw [hz2] at er;cases er;simp at cr
   exact wpAny_setField_rec hz2 (by simp) fun g3 _ s3=>⟨g3,e,rfl,rfl,fun c r c1 _ c3 _ x=>s3.extBut _ _ c1 (s2 _ _ c3 (s1.extBut _ _ c1 x)),r,s3.extBut _ _ ne er,cr⟩
  | some u=>
   have hv:us[n]? =none:=he.elim (fun z=>by rw [hu] at z;cases z) id
   refine wpAny_bind (zdN (hi.extBut s1.extBut D.i1z) (hp.extBut s1.extBut D.l1z) hu fun g2 i2 s2=>wpAny_pure ?_)
   have ho2:IsPair g2 o b c:=s2.extBut _ _ D.TOi1 (s1.extBut _ _ D.TOz ho)
   refine wpAny_bind (wpAny_seqItems ho2 rfl ?_);refine wpAny_bind (wpAny_updateSeq_pair ho2 fun g3 ho3 s3=>?_);refine wpAny_bind (wpAny_letGo (wpAny_pure ?_))
   refine wpAny_bind (wpAny_bind (wpAny_onRaise ?_));show wpAny _ _ (Builtin.SmallTypes.nextOf (.ref k) >>=_) _ _ _
   refine wpAny_bind (zfx (A:=A.in1) (show A.in1.handled=none from hh) (((hk.extBut s1.extBut D.i2z).extBut s2.extBut D.i12.symm).extBut s3.extBut D.TOi2.symm) (((hq.extBut s1.extBut D.l2z).extBut s2.extBut D.l2i1).extBut s3.extBut D.l2TO) hv fun g4 e s4 he4=>?_)
   obtain ⟨r,er,cr⟩:=he4
   have hz4:IsZip g4 y a o .ellipsis:=s4 _ _ D.i2z.symm (s3.extBut _ _ D.TOz.symm (s2.extBut _ _ D.i1z.symm hz1))
   have ne:e≠y:=fun x=>by subst x;rw [hz4] at er;cases er;simp at cr
   exact wpAny_setField_rec hz4 (by simp) fun g5 _ s5=>⟨g5,e,rfl,rfl,fun c r c1 c2 c3 c4 x=>s5.extBut _ _ c1 (s4 _ _ c4 (s3.extBut _ _ c2 (s2.extBut _ _ c3 (s1.extBut _ _ c1 x)))),r,s5.extBut _ _ ne er,cr⟩
 unfold pyNext
 refine wpAny_bind (wpAny_attempt (wpAny_callSpecial?_slot (name:=Str.ofString "__next__") tz F.slot_zip_next (wpAny_call_entry F.slot_zip_next tz F.entry_zip_next (wpAny_mono main (fun _ _ x=>x.elim) fun e s' h=>?_) (F.args_zip_next_1 _))))
 obtain ⟨g,x,rfl,rfl,up,r,er,cr⟩:=h
 exact wpAny_bind (wpAny_isInstance (T:= "StopIteration") (b:=true) ⟨r,er,cr⟩ isSubtype_stop (wpAny_pure (fin _ up)))
abbrev tz1 (g:Heap)(p:Addr):Heap:=g.push {cls:=.type "tuple_iterator",data:=.fields #[.ref p,.int 0 0]}
abbrev tz2 (g:Heap)(p q:Addr):Heap:=(tz1 g p).push {cls:=.type "tuple_iterator",data:=.fields #[.ref q,.int 0 0]}
abbrev tz3 (g:Heap)(p q:Addr):Heap:=(tz2 g p q).push {cls:=.type "tuple",data:=.seq #[.ref g.objs.size,.ref (tz1 g p).objs.size]}
abbrev tz4 (g:Heap)(p q:Addr):Heap:=(tz3 g p q).push {cls:=.type "tuple",data:=.seq #[.none,.none]}
abbrev tz5 (g:Heap)(p q:Addr):Heap:=(tz4 g p q).push {cls:=.type "zip",data:=.fields #[.none,.bool false,.bool false,.ref (tz2 g p q).objs.size,.ref (tz3 g p q).objs.size]}
theorem zii {p q:Addr}{xs us:Array Value}{Q:Value→Shared→Prop}(hp:z.heap.IsTuple p xs)(hq:z.heap.IsTuple q us)
  (fin:∀g,ZSt g (z.heap.objs.size+4) (z.heap.objs.size+2) (z.heap.objs.size+3) z.heap.objs.size (z.heap.objs.size+1) p q 0 xs us .none→g.objs.size=z.heap.objs.size+5→(∀c r,z.heap.get? c=some r→g.get? c=some r)→Q (.ref (z.heap.objs.size+4)) {z with heap:=g}):
  wpAny (model P W) A (call (.type "zip") [.ref p,.ref q]) Q E z:=by
 have M:Meets (Builtin.«zip.__new__» ⟨[.type "zip",.ref p,.ref q],[]⟩) (fun _ R s=>s.heap.IsTuple p xs∧s.heap.IsTuple q us∧R (.ok (.ret (.ref (tz4 s.heap p q).objs.size))) {s with heap:=tz5 s.heap p q}):=
  .of_wp fun prog w A R s h=>by
   obtain ⟨hp0,g,d,tk,os⟩:=s;obtain ⟨h1,h2,h⟩:=h
   have hsub:=sub_zip
   have L1:Heap.IsTuple (Shared.heap ⟨hp0,g,d,tk,os⟩) p xs:=h1
   have L2:Heap.IsTuple (Shared.heap ⟨hp0.push {cls:=.type "tuple_iterator",data:=.fields #[.ref p,.int 0 0]},g,d,tk,os⟩) q us:=by
    obtain ⟨r,e,x⟩:=h2;exact ⟨r,Heap.get?_push_of_some _ e,x⟩
   wp_walk using wpAny_pyIter_tuple L1,wpAny_pyIter_tuple L2
   exact ⟨_,rfl,h⟩
 have n1:(tz1 z.heap p).objs.size=z.heap.objs.size+1:=Heap.size_push ..
 have n2:(tz2 z.heap p q).objs.size=z.heap.objs.size+2:=by rw [Heap.size_push,n1]
 have n3:(tz3 z.heap p q).objs.size=z.heap.objs.size+3:=by rw [Heap.size_push,n2]
 have n4:(tz4 z.heap p q).objs.size=z.heap.objs.size+4:=by rw [Heap.size_push,n3]
 have n5:(tz5 z.heap p q).objs.size=z.heap.objs.size+5:=by rw [Heap.size_push,n4]
 have a5:(tz5 z.heap p q).get? (tz4 z.heap p q).objs.size=some _:=Heap.get?_push_size _ rfl
 have a4:(tz5 z.heap p q).get? (tz3 z.heap p q).objs.size=some _:=Heap.get?_push_of_some _ (Heap.get?_push_size _ rfl)
 have a3:(tz5 z.heap p q).get? (tz2 z.heap p q).objs.size=some _:=Heap.get?_push_of_some _ (Heap.get?_push_of_some _ (Heap.get?_push_size _ rfl))
 have a2:(tz5 z.heap p q).get? (tz1 z.heap p).objs.size=some _:=Heap.get?_push_of_some _ (Heap.get?_push_of_some _ (Heap.get?_push_of_some _ (Heap.get?_push_size _ rfl)))
 have a1:(tz5 z.heap p q).get? z.heap.objs.size=some _:=Heap.get?_push_of_some _ (Heap.get?_push_of_some _ (Heap.get?_push_of_some _ (Heap.get?_push_of_some _ (Heap.get?_push_size _ rfl))))
 have up:∀c r,z.heap.get? c=some r→(tz5 z.heap p q).get? c=some r:=fun c r x=>Heap.get?_push_of_some _ (Heap.get?_push_of_some _ (Heap.get?_push_of_some _ (Heap.get?_push_of_some _ (Heap.get?_push_of_some _ x))))
 rw [n2,n3,n4] at a5
 rw [n1,n2] at a3
 rw [n3] at a4
 rw [n1] at a2
 refine callType_new F.called_zip (by decide) (F.typeCall_zip_2 _ _) (F.newCall_zip_2 _ _) (fun obj=>F.args_object_init_3 obj _ _) F.entry_zip_new M ⟨hp,hq,?_⟩
 show _∧_
 rw [n4]
 refine ⟨⟨_,a5,rfl⟩,fin _ ⟨a5,a3,⟨_,_,a4⟩,⟨_,a1,rfl,rfl⟩,⟨_,a2,rfl,rfl⟩,?_,?_⟩ n5 up⟩
 ·obtain ⟨r,e,x⟩:=hp;exact ⟨r,up _ _ e,x⟩
 ·obtain ⟨r,e,x⟩:=hq;exact ⟨r,up _ _ e,x⟩
end
structure ZI (g:Heap)(y a o i k p q:Addr)(n:Nat)(f:Value):Prop where
 zp:IsZip g y a o f
 its:IsPair g a (.ref i) (.ref k)
 own:∃b c,IsPair g o b c
 i1:g.IsTupleIter i p n
 i2:g.IsTupleIter k q n
theorem ZSt.zi {g:Heap}{y a o i k p q:Addr}{n:Nat}{xs us:Array Value}{f:Value}(S:ZSt g y a o i k p q n xs us f):ZI g y a o i k p q n f:=⟨S.zp,S.its,S.own,S.i1,S.i2⟩
def Itz (K:PySem.W.Frag)(p q:Addr)(xs us:List V):It:=
 ⟨fun n H=>SqT K H p xs∧SqT K H q us∧n < min xs.length us.length,fun n H v H'=>∃(T:Addr) (x u:V),H T=none∧xs[n]? =some x∧us[n]? =some u∧v=.ref T∧H'=upd H T (.tup [x,u]),fun n H=>SqT K H p xs∧SqT K H q us∧min xs.length us.length≤n⟩
theorem ziF {P:Program}{w:World}{K:PySem.W.Frag}{elts:List Expr}{x1:Nat}{tpos:Pos}{y a o i k p q:Addr}{xs us:List V}(D:ZipApart y a o i k p q):
  Turn P w K (.Tuple elts x1 tpos) (Itz K p q xs us) [y,a,o,i,k] y (fun n h=>ZI h y a o i k p q n .none) where
 mem:=by simp
 obj:=fun n h st b hb=>by
  obtain ⟨hz,ha,⟨b1,b2,ho⟩,⟨r1,e1,_,d1⟩,⟨r2,e2,_,d2⟩⟩:=st
  simp only [List.mem_cons,List.not_mem_nil,or_false] at hb
  rcases hb with rfl | rfl | rfl | rfl | rfl
  ·exact ⟨_,hz,fun v z=>by cases z⟩
  ·exact ⟨_,ha,fun v z=>by cases z⟩
  ·exact ⟨_,ho,fun v z=>by cases z⟩
  ·exact ⟨_,e1,fun v z=>by rw [d1] at z;cases z⟩
  ·exact ⟨_,e2,fun v z=>by rw [d2] at z;cases z⟩
 keep:=fun n h h' st kp=>by
  obtain ⟨hz,ha,⟨b1,b2,ho⟩,⟨r1,e1,x1⟩,⟨r2,e2,x2⟩⟩:=st
  exact ⟨kp y (by simp) _ hz,kp a (by simp) _ ha,⟨b1,b2,kp o (by simp) _ ho⟩,⟨r1,kp i (by simp) _ e1,x1⟩,⟨r2,kp k (by simp) _ e2,x2⟩⟩
 item:=by
  intro X hP hw hK hc n pins s σ H E I hf st hg
  subst hP hw hK
  obtain ⟨hp,hq,hn⟩:=hg
  obtain ⟨its,r1,T1,z1⟩:=I.tuple hp
  obtain ⟨jts,r2,T2,z2⟩:=I.tuple hq
  have hx:xs[n]? =some xs[n]:=List.getElem?_eq_getElem (by omega)
  have hu:us[n]? =some us[n]:=List.getElem?_eq_getElem (by omega)
  obtain ⟨v1,e1,q1⟩:=r1.get hx
  obtain ⟨v2,e2,q2⟩:=r2.get hu
  have fy:=hf y (by simp)
  have fa:=hf a (by simp)
  have fo:=hf o (by simp)
  have fi:=hf i (by simp)
  have fk:=hf k (by simp)
  have S:ZSt s.heap y a o i k p q n its.toArray jts.toArray .none:=⟨st.zp,st.its,st.own,st.i1,st.i2,T1,T2⟩
  refine zjo D S (u:=v1) (v:=v2) (by simpa using e1) (by simpa using e2) fun g Sg new sz up=>?_
  have hT:H s.heap.objs.size=none:=I.hok.fresh (Nat.le_refl _)
  have inch:∀{b:Addr},H b≠none→b≠y∧b≠o∧b≠i∧b≠k:=fun {b} h=>⟨fun z=>h (by rw [z];exact fy.1),fun z=>h (by rw [z];exact fo.1),fun z=>h (by rw [z];exact fi.1),fun z=>h (by rw [z];exact fk.1)⟩
  have hok:HOk X.prog X.w (upd H s.heap.objs.size (.tup [xs[n],us[n]])) g:=fun b u e=>by
   by_cases hb:b=s.heap.objs.size
   ·subst hb
    rw [ze] at e
    cases e
    refine ⟨by simp only [List.length_cons,List.length_nil];rw [sizeLine_eq];decide,[v1,v2],.cons q1 (.cons q2 .nil),⟨_,new,rfl,_,rfl⟩⟩
   ·rw [zj hb] at e
    refine (I.hok b u e).stay (fun c r hc q=>?_) (fun c q=>by rw [zj (zh q hT)];exact q) fun c ys q=>by rw [zj (zh q hT)];exact q
    have hne:H c≠none:=by
     rcases hc with rfl | hc
     ·rw [e];intro z;cases z
     ·rw [hc];intro z;cases z
    obtain ⟨c1,c2,c3,c4⟩:=inch hne
    exact up c r c1 c2 c3 c4 q
  have I1:Inv X pins σ (upd H s.heap.objs.size (.tup [xs[n],us[n]])) {s with heap:=g}:=by
   refine I.step (g':=s.gens) (d':=s.drawn) (t':=s.toks) (ch:=[y,o,i,k]) (fun b hb=>?_) (fun b r _ _ hc e _=>?_) (fun b r _ _ hc e _=>⟨r.slots,?_⟩) (fun b r hc e hn=>?_) (fun b r hc e=>⟨r,?_⟩) (fun b ys e=>by rw [zj (zh e hT)];exact e)
    (fun b r ys e=>by rw [zj (zh e hT)];exact e) (fun b ps e=>⟨#[],by rw [zj (zh e hT),e];simp⟩) (fun m hm=>?_) hok I.bare
   ·simp only [List.mem_cons,List.not_mem_nil,or_false] at hb
    rcases hb with rfl | rfl | rfl | rfl
    ·exact ⟨fy.2.2.2.1,fy.2.1,fy.2.2.2.2.1,fy.2.2.2.2.2⟩
    ·exact ⟨fo.2.2.2.1,fo.2.1,fo.2.2.2.2.1,fo.2.2.2.2.2⟩
    ·exact ⟨fi.2.2.2.1,fi.2.1,fi.2.2.2.2.1,fi.2.2.2.2.2⟩
    ·exact ⟨fk.2.2.2.1,fk.2.1,fk.2.2.2.2.1,fk.2.2.2.2.2⟩
   ·simp only [List.mem_cons,List.not_mem_nil,or_false,not_or] at hc
    exact up b r hc.1 hc.2.1 hc.2.2.1 hc.2.2.2 e
   ·simp only [List.mem_cons,List.not_mem_nil,or_false,not_or] at hc
    exact up b r hc.1 hc.2.1 hc.2.2.1 hc.2.2.2 e
   ·rw [zj (Nat.ne_of_lt (Heap.lt_size e))];exact hn
   ·simp only [List.mem_cons,List.not_mem_nil,or_false,not_or] at hc
    exact up b r hc.1 hc.2.1 hc.2.2.1 hc.2.2.2 e
   ·obtain ⟨r,es,ep,er,d⟩:=hm
    exact ⟨r,es,ep,up _ r (Ne.symm fy.2.1) (Ne.symm fo.2.1) (Ne.symm fi.2.1) (Ne.symm fk.2.1) er,d⟩
  have hfp:∀b∈ [y,a,o,i,k],upd H s.heap.objs.size (.tup [xs[n],us[n]]) b=none:=fun b hb=>by
   have fb:=hf b hb
   have lt:b < s.heap.objs.size:=by
    obtain ⟨hz,ha,⟨b1,b2,ho⟩,⟨r1,e1,_⟩,⟨r2,e2,_⟩⟩:=st
    simp only [List.mem_cons,List.not_mem_nil,or_false] at hb
    rcases hb with rfl | rfl | rfl | rfl | rfl
    ·exact Heap.lt_size hz
    ·exact Heap.lt_size ha
    ·exact Heap.lt_size ho
    ·exact Heap.lt_size e1
    ·exact Heap.lt_size e2
   rw [zj (Nat.ne_of_lt lt)];exact fb.1
  refine ⟨_,rfl,wpAny_letOwnedTupleGo_zip Sg.zp fun g2 hz2 s2=>?_⟩
  refine ⟨.ref s.heap.objs.size,_,I1.turned (it:=y) (t':=s.toks) (fun b r hb e=>s2.extBut _ _ hb e) (hfp y (by simp)) fy.2.1 fy.2.2.2.1 fy.2.2.2.2.1 fy.2.2.2.2.2,rfl,⟨_,_,_,hT,hx,hu,rfl,rfl⟩,⟨hz2,s2.extBut _ _ D.TIz Sg.its,?_,Sg.i1.extBut s2.extBut D.i1z,Sg.i2.extBut s2.extBut D.i2z⟩,hfp⟩
  obtain ⟨b1,b2,ho⟩:=Sg.own
  exact ⟨b1,b2,s2.extBut _ _ D.TOz ho⟩
 done:=by
  intro X hP hw hK hc n pins s σ H E I hf st hg
  subst hP hw hK
  obtain ⟨hp,hq,hn⟩:=hg
  obtain ⟨its,r1,T1,z1⟩:=I.tuple hp
  obtain ⟨jts,r2,T2,z2⟩:=I.tuple hq
  have fy:=hf y (by simp)
  have fo:=hf o (by simp)
  have fi:=hf i (by simp)
  have fk:=hf k (by simp)
  have S:ZSt s.heap y a o i k p q n its.toArray jts.toArray .none:=⟨st.zp,st.its,st.own,st.i1,st.i2,T1,T2⟩
  have l1:=r1.length
  have l2:=r2.length
  have he:its.toArray[n]? =none∨jts.toArray[n]? =none:=by
   by_cases h:xs.length≤n
   ·exact .inl (by simp;omega)
   ·exact .inr (by simp;omega)
  refine zjf (I.ok.hd hc) D S he fun g up=>⟨rfl,?_⟩
  have inch:∀{b:Addr},H b≠none→b≠y∧b≠o∧b≠i∧b≠k:=fun {b} h=>⟨fun z=>h (by rw [z];exact fy.1),fun z=>h (by rw [z];exact fo.1),fun z=>h (by rw [z];exact fi.1),fun z=>h (by rw [z];exact fk.1)⟩
  refine I.step (g':=s.gens) (d':=s.drawn) (t':=s.toks) (ch:=[y,o,i,k]) (fun b hb=>?_) (fun b r _ _ hc e _=>?_) (fun b r _ _ hc e _=>⟨r.slots,?_⟩) (fun b r hc e hn=>hn) (fun b r hc e=>⟨r,?_⟩) (fun b ys e=>e) (fun b r ys e=>e) (fun b ps e=>⟨#[],by rw [e];simp⟩) (fun m hm=>?_) (fun b u e=>?_) I.bare
  ·simp only [List.mem_cons,List.not_mem_nil,or_false] at hb
   rcases hb with rfl | rfl | rfl | rfl
   ·exact ⟨fy.2.2.2.1,fy.2.1,fy.2.2.2.2.1,fy.2.2.2.2.2⟩
   ·exact ⟨fo.2.2.2.1,fo.2.1,fo.2.2.2.2.1,fo.2.2.2.2.2⟩
   ·exact ⟨fi.2.2.2.1,fi.2.1,fi.2.2.2.2.1,fi.2.2.2.2.2⟩
   ·exact ⟨fk.2.2.2.1,fk.2.1,fk.2.2.2.2.1,fk.2.2.2.2.2⟩
  ·simp only [List.mem_cons,List.not_mem_nil,or_false,not_or] at hc
   exact up b r hc.1 hc.2.1 hc.2.2.1 hc.2.2.2 e
  ·simp only [List.mem_cons,List.not_mem_nil,or_false,not_or] at hc
   exact up b r hc.1 hc.2.1 hc.2.2.1 hc.2.2.2 e
  ·simp only [List.mem_cons,List.not_mem_nil,or_false,not_or] at hc
   exact up b r hc.1 hc.2.1 hc.2.2.1 hc.2.2.2 e
  ·obtain ⟨r,es,ep,er,d⟩:=hm
   exact ⟨r,es,ep,up _ r (Ne.symm fy.2.1) (Ne.symm fo.2.1) (Ne.symm fi.2.1) (Ne.symm fk.2.1) er,d⟩
  ·refine (I.hok b u e).stay (fun c r hc q=>?_) (fun _ q=>q) fun _ _ q=>q
   have hne:H c≠none:=by
    rcases hc with rfl | hc
    ·rw [e];intro z;cases z
    ·rw [hc];intro z;cases z
   obtain ⟨c1,c2,c3,c4⟩:=inch hne
   exact up c r c1 c2 c3 c4 q
 self:=fun _ _ _ _ _ st h=>wpAny_pyIter_zip st.zp h
theorem zlc (n p q:Nat)(h1:p < n)(h2:q < n):ZipApart (n+4) (n+2) (n+3) n (n+1) p q where
 TIz:=show (n+2:Nat)≠n+4 by omega
 TOz:=show (n+3:Nat)≠n+4 by omega
 i1z:=show (n:Nat)≠n+4 by omega
 i2z:=show (n+1:Nat)≠n+4 by omega
 TITO:=show (n+2:Nat)≠n+3 by omega
 TIi1:=show (n+2:Nat)≠n by omega
 TIi2:=show (n+2:Nat)≠n+1 by omega
 TOi1:=show (n+3:Nat)≠n by omega
 TOi2:=show (n+3:Nat)≠n+1 by omega
 i12:=show (n:Nat)≠n+1 by omega
 l1z:=show (p:Nat)≠n+4 by omega
 l1TO:=show (p:Nat)≠n+3 by omega
 l1i1:=show (p:Nat)≠n by omega
 l1i2:=show (p:Nat)≠n+1 by omega
 l2z:=show (q:Nat)≠n+4 by omega
 l2TO:=show (q:Nat)≠n+3 by omega
 l2i1:=show (q:Nat)≠n by omega
 l2i2:=show (q:Nat)≠n+1 by omega
section
variable {X:Cx}
def iZip (K:PySem.W.Frag)(ta:TA):TI:=fun σ H R=>ta σ H fun vs H1=>∃(p q:Addr) (xs us:List V),vs=[.ref p,.ref q]∧SqT K H1 p xs∧SqT K H1 q us∧R (Itz K p q xs us) H1
theorem zlA {elts:List Expr}{x1:Nat}{tpos:Pos}{a b:Expr}{ta:TA}{p pos:Pos}(hg:Gl X "zip") (hm:X.mg "zip" =none) (ha:PA X [a,b] ta) (hs:starEach [a,b] X.env=[(false,eval a X.env),(false,eval b X.env)]:=by rfl) (hs2:starEach [b] X.env=[(false,eval b X.env)]:=by rfl):
  PI X (.Tuple elts x1 tpos) (.Call (.Name "zip" p) [a,b] [] pos) (iZip X.K ta):=by
 intro pins s σ H R I h
 refine Call_ (zdd I hg hm (u:=.type "zip") (by rfl) (PyProof.Rows.callWith_type1 (thn (ha pos pins s σ H _ I h) fun us s1 ⟨vs,H1,I1,r1,q1⟩=>?_) (by rw [hs,hs2]) (by rw [hs2];rfl)))
 obtain ⟨p1,p2,xs,ys,rfl,hp,hq,q⟩:=q1
 obtain ⟨u,w',rfl,ru,rw'⟩:=vals2 r1
 cases (show u=Value.ref _ from ru)
 cases (show w'=Value.ref _ from rw')
 obtain ⟨its,r1,T1,z1⟩:=I1.tuple hp
 obtain ⟨jts,r2,T2,z2⟩:=I1.tuple hq
 refine zii T1 T2 fun g S sz up=>wpAny_pyIter_zip S.zp ?_
 have lt1:p1 < s1.heap.objs.size:=by obtain ⟨r,e,_⟩:=T1;exact Heap.lt_size e
 have lt2:p2 < s1.heap.objs.size:=by obtain ⟨r,e,_⟩:=T2;exact Heap.lt_size e
 refine ⟨_,_,_,_,H1,rfl,I1.kept (t':=s1.toks) up,ziF (zlc _ _ _ lt1 lt2),S.zi,fun b hb=>?_,q⟩
 have hb':s1.heap.objs.size≤b:=by
  simp only [List.mem_cons,List.not_mem_nil,or_false] at hb
  rcases hb with rfl | rfl | rfl | rfl | rfl
  ·exact Nat.le_add_right _ _
  ·exact Nat.le_add_right _ _
  ·exact Nat.le_add_right _ _
  ·exact Nat.le_refl _
  ·exact Nat.le_add_right _ _
 exact I1.fpOk hb' (I1.hok.fresh hb')
theorem zkw {K:PySem.W.Frag}{p q:Addr}{xs us:List V}{g:TG}{tb:TS}{D:Ends}{σ:St}{H:Hp}(Pv:Nat→St→Hp→Prop)(h0:Pv 0 σ H)(hl:∀i σ H,Pv i σ H→SqT K H p xs∧SqT K H q us)
  (hs:∀i x u T σ H,xs[i]? =some x→us[i]? =some u→H T=none→Pv i σ H→g (.ref T) σ (upd H T (.tup [x,u])) fun σ2 H2=>tb {D with nx:=Pv (i+1),ct:=Pv (i+1),bk:=D.nx} σ2 H2) (hd:∀σ H,Pv (min xs.length us.length) σ H→D.nx σ H):
  ∃W:Nat→Nat→St→Hp→Prop,(∃m,W 0 m σ H)∧∀i m σ H,W i m σ H→
   ((Itz K p q xs us).stop i H∧D.nx σ H)∨((Itz K p q xs us).go i H∧∃N:St→Hp→Prop,(∀σ' H',N σ' H'→∃m',m' < m∧W (i+1) m' σ' H')∧∀x H',(Itz K p q xs us).yld i H x H'→g x σ H' fun σ2 H2=>tb {D with nx:=N,ct:=N,bk:=D.nx} σ2 H2):=by
 refine ⟨fun i m σ H=>m=min xs.length us.length - i∧i≤min xs.length us.length∧Pv i σ H,⟨_,rfl,Nat.zero_le _,h0⟩,?_⟩
 rintro i m σ H ⟨rfl,hi,p⟩
 have q:=hl i σ H p
 by_cases hlt:i < min xs.length us.length
 ·refine .inr ⟨⟨q.1,q.2,hlt⟩,Pv (i+1),fun σ' H' p'=>⟨_,by omega,rfl,hlt,p'⟩,fun x H' y=>?_⟩
  obtain ⟨T,a,b,hT,e1,e2,rfl,rfl⟩:=y
  exact hs i a b T σ H e1 e2 hT p
 ·have e:i=min xs.length us.length:=by omega
  subst e
  exact .inl ⟨⟨q.1,q.2,Nat.le_refl _⟩,hd σ H p⟩
end
end L2
namespace Pv
open PySem L2
mutual
def eqT:Th→Th→Bool
 | .non,.non=>true
 | .int a,.int b=>a==b
 | .str a,.str b=>a==b
 | .tup a,.tup b=>eqL a b
 | _,_=>false
def eqL:List Th→List Th→Bool
 | [],[]=>true
 | t::r,u::q=>eqT t u && eqL r q
 | _,_=>false
end
mutual
theorem zbw:∀t u:Th,eqT t u=true↔t=u
 | .non,.non=>by simp [eqT]
 | .non,.int _=>by simp [eqT]
 | .non,.str _=>by simp [eqT]
 | .non,.tup _=>by simp [eqT]
 | .int _,.non=>by simp [eqT]
 | .int a,.int b=>by simp [eqT]
 | .int _,.str _=>by simp [eqT]
 | .int _,.tup _=>by simp [eqT]
 | .str _,.non=>by simp [eqT]
 | .str _,.int _=>by simp [eqT]
 | .str a,.str b=>by simp [eqT]
 | .str _,.tup _=>by simp [eqT]
 | .tup _,.non=>by simp [eqT]
 | .tup _,.int _=>by simp [eqT]
 | .tup _,.str _=>by simp [eqT]
 | .tup a,.tup b=>by
  have:=zeU a b
  simp [eqT,this]
theorem zeU:∀a b:List Th,eqL a b=true↔a=b
 | [],[]=>by simp [eqL]
 | [],_::_=>by simp [eqL]
 | _::_,[]=>by simp [eqL]
 | t::r,u::q=>by
  have h1:=zbw t u
  have h2:=zeU r q
  simp [eqL,h1,h2]
end
theorem zaw (t:Th):eqT t t=true:=(zbw t t).mpr rfl
theorem zcB:∀a b:List Th,eqL a b=((List.range (min a.length b.length)).all (fun j=>eqT (a[j]?.getD .non) (b[j]?.getD .non)) && a.length==b.length)
 | [],[]=>rfl
 | [],_::_=>by simp [eqL]
 | _::_,[]=>by simp [eqL]
 | t::r,u::q=>by
  have h:=zcB r q
  show (eqT t u && eqL r q)=_
  rw [h,List.length_cons,List.length_cons,Nat.succ_min_succ,List.range_succ_eq_map,List.all_cons,List.all_map]
  have e:(fun j=>eqT ((t::r)[j]?.getD .non) ((u::q)[j]?.getD .non)) ∘ Nat.succ=fun j=>eqT (r[j]?.getD .non) (q[j]?.getD .non):=by
   funext j
   simp
  rw [e]
  have e2:(r.length+1==q.length+1)=(r.length==q.length):=by
   rw [Bool.eq_iff_iff];simp
  rw [e2,Bool.and_assoc]
  rfl
theorem Rep.inj {H:Hp}{t u:Th}{v:V}(r:Rep H t v)(q:Rep H u v):t=u:=by
 induction r generalizing u with
 | non=>cases q;rfl
 | int i=>cases q;rfl
 | str x=>cases q;rfl
 | @tup a xs ts e l h ih=>
  cases q with
  | @tup _ ys us e' l' h'=>
   rw [e] at e'
   cases e'
   refine congrArg Th.tup (List.ext_getElem? fun i=>?_)
   by_cases hi:i < xs.length
   ·have h1:ts[i]? =some ts[i]:=List.getElem?_eq_getElem (by omega)
    have h2:us[i]? =some us[i]:=List.getElem?_eq_getElem (by omega)
    rw [h1,h2,ih i xs[i] ts[i] (List.getElem?_eq_getElem hi) h1 (h' i xs[i] us[i] (List.getElem?_eq_getElem hi) h2)]
   ·rw [List.getElem?_eq_none (by omega),List.getElem?_eq_none (by omega)]
open PySem.SeqAt in
section
variable {X:Cx}{pins:List (Addr ×Obj)}{σ:L2.St}{H:Hp}{s:Shared}
theorem zfE (I:Inv X pins σ H s){a b:Addr}{xs ys:List V}{ts us:List Th}{A:Around}(e:H a=some (.tup xs))(e':H b=some (.tup ys))(l:xs.length=ts.length)(l':ys.length=us.length)
  (ih:∀(j:Nat) (x y:V) (t u:Th) (vx vy:Value),xs[j]? =some x→ys[j]? =some y→ts[j]? =some t→us[j]? =some u→RelV x vx→RelV y vy→EqAt A.in1 s vx vy (eqT t u)):
  ∃its jts:List Value,s.heap.IsTuple a its.toArray∧s.heap.IsTuple b jts.toArray∧its.length=ts.length∧jts.length=us.length∧
   ∀j (h1:j < its.toArray.size) (h2:j < jts.toArray.size),EqAt A.in1 s its.toArray[j] jts.toArray[j] (eqT (ts[j]?.getD .non) (us[j]?.getD .non)):=by
 obtain ⟨its,r1,T1,_⟩:=I.tuple (SqT.of e)
 obtain ⟨jts,r2,T2,_⟩:=I.tuple (SqT.of e')
 have n1:=r1.length
 have n2:=r2.length
 refine ⟨its,jts,T1,T2,by omega,by omega,fun j h1 h2=>?_⟩
 have h1':j < its.length:=by simpa using h1
 have h2':j < jts.length:=by simpa using h2
 obtain ⟨vx,ex,rx⟩:=r1.get (List.getElem?_eq_getElem (show j < xs.length by omega))
 obtain ⟨vy,ey,ry⟩:=r2.get (List.getElem?_eq_getElem (show j < ys.length by omega))
 have g1:ts[j]? =some ts[j]:=List.getElem?_eq_getElem (by omega)
 have g2:us[j]? =some us[j]:=List.getElem?_eq_getElem (by omega)
 have q:=ih j _ _ _ _ vx vy (List.getElem?_eq_getElem (show j < xs.length by omega)) (List.getElem?_eq_getElem (show j < ys.length by omega)) g1 g2 rx ry
 rw [g1,g2]
 have z1:its.toArray[j]=vx:=by
  have:its[j]? =some its[j]:=List.getElem?_eq_getElem h1'
  rw [this] at ex
  simpa using Option.some.inj ex
 have z2:jts.toArray[j]=vy:=by
  have:jts[j]? =some jts[j]:=List.getElem?_eq_getElem h2'
  rw [this] at ey
  simpa using Option.some.inj ey
 rw [z1,z2]
 exact q
theorem ziC (I:Inv X pins σ H s){t:Th}{x:V}(r:Rep H t x):∀{u:Th} {y:V} {vx vy:Value} {A:Around},Rep H u y→RelV x vx→RelV y vy→A.units+dep t+1 < cLine→EqAt A s vx vy (eqT t u):=by
 induction r with
 | non=>
  intro u y vx vy A q rx ry hu
  cases (show vx=Value.none from rx)
  cases q with
  | non=>cases (show vy=Value.none from ry);exact EqAt.same _
  | int i=>obtain ⟨k,rfl⟩:=ry;exact EqAt.none_int i k
  | str z=>obtain ⟨k,rfl⟩:=ry;exact EqAt.none_str z k
  | tup e l h=>
   cases (show vy=Value.ref _ from ry)
   obtain ⟨its,_,T,_⟩:=I.tuple (SqT.of e)
   exact EqAt.none_tuple T (by omega)
 | int a=>
  intro u y vx vy A q rx ry hu
  obtain ⟨k1,rfl⟩:=rx
  cases q with
  | non=>cases (show vy=Value.none from ry);exact EqAt.int_none a k1
  | int i=>obtain ⟨k,rfl⟩:=ry;exact EqAt.int_int a k1 i k
  | str z=>obtain ⟨k,rfl⟩:=ry;exact EqAt.int_str a k1 z k
  | tup e l h=>
   cases (show vy=Value.ref _ from ry)
   obtain ⟨its,_,T,_⟩:=I.tuple (SqT.of e)
   exact EqAt.int_tuple a k1 T (by omega)
 | str a=>
  intro u y vx vy A q rx ry hu
  obtain ⟨k1,rfl⟩:=rx
  cases q with
  | non=>cases (show vy=Value.none from ry);exact EqAt.str_none a k1
  | int i=>obtain ⟨k,rfl⟩:=ry;exact EqAt.str_int a k1 i k
  | str z=>obtain ⟨k,rfl⟩:=ry;exact EqAt.str_str a k1 z k
  | tup e l h=>
   cases (show vy=Value.ref _ from ry)
   obtain ⟨its,_,T,_⟩:=I.tuple (SqT.of e)
   exact EqAt.str_tuple a k1 T (by omega)
 | @tup a xs ts e l h ih=>
  intro u y vx vy A q rx ry hu
  cases (show vx=Value.ref a from rx)
  cases q with
  | non=>
   cases (show vy=Value.none from ry)
   obtain ⟨its,_,T,_⟩:=I.tuple (SqT.of e)
   exact EqAt.tuple_none T (by omega)
  | int i=>
   obtain ⟨k,rfl⟩:=ry
   obtain ⟨its,_,T,_⟩:=I.tuple (SqT.of e)
   exact EqAt.tuple_int i k T (by omega)
  | str z=>
   obtain ⟨k,rfl⟩:=ry
   obtain ⟨its,_,T,_⟩:=I.tuple (SqT.of e)
   exact EqAt.tuple_str z k T (by omega)
  | @tup b ys us e' l' h'=>
   cases (show vy=Value.ref b from ry)
   by_cases hab:a=b
   ·subst hab
    have z:=Rep.inj (Rep.tup e l h) (Rep.tup e' l' h')
    rw [←z,zaw]
    exact EqAt.same _
   ·have hd:dep (.tup ts)=depL ts+1:=rfl
    obtain ⟨its,jts,T1,T2,n1,n2,q⟩:=zfE (A:=A) I e e' l l' fun j x y t u vx vy h1 h2 h3 h4 rx ry=>ih j x t h1 h3 (h' j y u h2 h4) rx ry (by
     have:=zbQ h3
     show A.units+1+dep t+1 < cLine
     omega)
    have R:=RcAt.tuples T1 T2 (show A.units < cLine by omega) q
    have e3:((List.range (min its.toArray.size jts.toArray.size)).all (fun j=>eqT (ts[j]?.getD .non) (us[j]?.getD .non)) && its.toArray.size==jts.toArray.size)=eqT (.tup ts) (.tup us):=by
     show _=eqL ts us
     rw [zcB,List.size_toArray,List.size_toArray,n1,n2]
    rw [e3] at R
    exact EqAt.of_refs hab R
theorem rc_T (I:Inv X pins σ H s){t u:Th}{x y:V}{vx vy:Value}{A:Around}(r:Rep H t x)(q:Rep H u y)(rx:RelV x vx)(ry:RelV y vy)(hu:A.units+dep t+1 < cLine):RcAt A s vx vy (eqT t u)∧RcNeAt A s vx vy (!eqT t u):=by
 cases r with
 | non=>
  cases (show vx=Value.none from rx)
  cases q with
  | non=>cases (show vy=Value.none from ry);exact ⟨RcAt.none_none,RcNeAt.none_none⟩
  | int i=>obtain ⟨k,rfl⟩:=ry;exact ⟨RcAt.none_int i k,RcNeAt.none_int i k⟩
  | str z=>obtain ⟨k,rfl⟩:=ry;exact ⟨RcAt.none_str z k,RcNeAt.none_str z k⟩
  | tup e l h=>
   cases (show vy=Value.ref _ from ry)
   obtain ⟨its,_,T,_⟩:=I.tuple (SqT.of e)
   exact ⟨RcAt.none_tuple T (by omega),RcNeAt.none_tuple T (by omega)⟩
 | int a=>
  obtain ⟨k1,rfl⟩:=rx
  cases q with
  | non=>cases (show vy=Value.none from ry);exact ⟨RcAt.int_none a k1,RcNeAt.int_none a k1⟩
  | int i=>obtain ⟨k,rfl⟩:=ry;exact ⟨RcAt.int_int a k1 i k,RcNeAt.int_int a k1 i k⟩
  | str z=>obtain ⟨k,rfl⟩:=ry;exact ⟨RcAt.int_str a k1 z k,RcNeAt.int_str a k1 z k⟩
  | tup e l h=>
   cases (show vy=Value.ref _ from ry)
   obtain ⟨its,_,T,_⟩:=I.tuple (SqT.of e)
   exact ⟨RcAt.int_tuple a k1 T (by omega),RcNeAt.int_tuple a k1 T (by omega)⟩
 | str a=>
  obtain ⟨k1,rfl⟩:=rx
  cases q with
  | non=>cases (show vy=Value.none from ry);exact ⟨RcAt.str_none a k1,RcNeAt.str_none a k1⟩
  | int i=>obtain ⟨k,rfl⟩:=ry;exact ⟨RcAt.str_int a k1 i k,RcNeAt.str_int a k1 i k⟩
  | str z=>obtain ⟨k,rfl⟩:=ry;exact ⟨RcAt.str_str a k1 z k,RcNeAt.str_str a k1 z k⟩
  | tup e l h=>
   cases (show vy=Value.ref _ from ry)
   obtain ⟨its,_,T,_⟩:=I.tuple (SqT.of e)
   exact ⟨RcAt.str_tuple a k1 T (by omega),RcNeAt.str_tuple a k1 T (by omega)⟩
 | @tup a xs ts e l h=>
  cases (show vx=Value.ref a from rx)
  cases q with
  | non=>
   cases (show vy=Value.none from ry)
   obtain ⟨its,_,T,_⟩:=I.tuple (SqT.of e)
   exact ⟨RcAt.tuple_none T (by omega),RcNeAt.tuple_none T (by omega)⟩
  | int i=>
   obtain ⟨k,rfl⟩:=ry
   obtain ⟨its,_,T,_⟩:=I.tuple (SqT.of e)
   exact ⟨RcAt.tuple_int i k T (by omega),RcNeAt.tuple_int i k T (by omega)⟩
  | str z=>
   obtain ⟨k,rfl⟩:=ry
   obtain ⟨its,_,T,_⟩:=I.tuple (SqT.of e)
   exact ⟨RcAt.tuple_str z k T (by omega),RcNeAt.tuple_str z k T (by omega)⟩
  | @tup b ys us e' l' h'=>
   cases (show vy=Value.ref b from ry)
   have hd:dep (.tup ts)=depL ts+1:=rfl
   obtain ⟨its,jts,T1,T2,n1,n2,q⟩:=zfE (A:=A) I e e' l l' fun j x y t u vx vy h1 h2 h3 h4 rx ry=>ziC I (h j x t h1 h3) (h' j y u h2 h4) rx ry (by
     have:=zbQ h3
     show A.units+1+dep t+1 < cLine
     omega)
   have e3:((List.range (min its.toArray.size jts.toArray.size)).all (fun j=>eqT (ts[j]?.getD .non) (us[j]?.getD .non)) && its.toArray.size==jts.toArray.size)=eqT (.tup ts) (.tup us):=by
    show _=eqL ts us
    rw [zcB,List.size_toArray,List.size_toArray,n1,n2]
   have R:=RcAt.tuples T1 T2 (show A.units < cLine by omega) q
   have R':=RcNeAt.tuples T1 T2 (show A.units < cLine by omega) q
   rw [e3] at R R'
   exact ⟨R,R'⟩
end
section
variable {X:Cx}
theorem zdL {k:Nat}(hr:Room k X.A):OpR X (compareOp .Eq) (fun x y H Q=>∃t u,Rep H t x∧Rep H u y∧dep t≤50∧Q (.bl (eqT t u)) H):=by
 intro pins s σ H x y v w Q I rx ry h
 obtain ⟨t,u,r1,r2,hd,q⟩:=h
 have hu:=hr.units
 exact (rc_T I r1 r2 rx ry (by omega)).1 _ _ _ _ ⟨.bl _,H,I,rfl,q⟩
theorem zb6 {k:Nat}(hr:Room k X.A):OpR X (compareOp .NotEq) (fun x y H Q=>∃t u,Rep H t x∧Rep H u y∧dep t≤50∧Q (.bl (!eqT t u)) H):=by
 intro pins s σ H x y v w Q I rx ry h
 obtain ⟨t,u,r1,r2,hd,q⟩:=h
 have hu:=hr.units
 exact (rc_T I r1 r2 rx ry (by omega)).2 _ _ _ _ ⟨.bl _,H,I,rfl,q⟩
end
end Pv
namespace L2
open PySem PySem.Spec PyProof.Rows
def zem (kvs:List (Key ×V)):List Int:=kvs.filterMap fun p=>match p.1 with | .inl n=>some n | .inr _=>none
def IntKeys (kvs:List (Key ×V)):Prop:=kvs.map (·.1)=(zem kvs).map Sum.inl
theorem KV.at {kvs:List (Key ×V)}{vs:List (Key ×Value)}(r:KV kvs vs):kvs.length=vs.length∧kvs.map (·.1)=vs.map (·.1):=by
 unfold KV at r
 induction r with
 | nil=>exact ⟨rfl,rfl⟩
 | cons h _ ih=>exact ⟨by simp [ih.1],by simp [ih.2,h.1]⟩
section
variable {X:Cx}
end
end L2
namespace L2
open PySem PySem.Spec PyProof.Rows
section
open PySem.SeqAt
open PySem.AutoSeq1 (wpAny_loadPart')
open PySem.MeetsSeq PySem.MeetsSeq2 PySem.MeetsSeq3
end
section
variable {X:Cx}
def rLtL (K:PySem.W.Frag):R2:=fun x y H Q=>∃(a b:Addr) (ns ms:List Int),x=.ref a∧y=.ref b∧H a=some (.lst (ns.map V.int))∧H b=some (.lst (ms.map V.int))∧Q (.bl (HT.lexLt ns ms)) H
end
end L2
namespace L2
open PySem PySem.Spec PyProof.Rows
section
open PySem.AutoSeq1 (wpAny_loadPart')
theorem za7:seqRepeat? (.type "tuple")=pure (some (.builtin "tuple.__mul__")):=by
 unfold seqRepeat?;rw [PySem.seqSlot_of (T:= "tuple") (name:= "__mul__") (id:= "tuple.__mul__") F.slot_tuple_mul.lookup (by decide+kernel),PySem.seqSlot_of (T:= "tuple") (name:= "__rmul__") (id:= "tuple.__rmul__") F.slot_tuple_rmul.lookup (by decide+kernel)];rfl
end
section
variable {X:Cx}
def znC:R2:=fun x y H Q=>∃(p:Addr) (k:Int) (v:V),x=.ref p∧y=.int k∧H p=some (.tup [v])∧2≤k∧k≤1000∧∀r,H r=none→Q (.ref r) (upd H r (.tup (List.replicate k.toNat v)))
def zkB (K:PySem.W.Frag):R2:=fun x y H Q=>∃(a b:Addr) (xs ys:List V),x=.ref a∧y=.ref b∧H a=some (.tup xs)∧H b=some (.tup ys)∧xs.length+ys.length≤sizeLine∧
 ∀(r:Addr) (H':Hp),Same H H'→H' r=some (.tup (xs++ys))→Q (.ref r) H'
theorem zdg:OpR X (binaryOp .Add) (zkB X.K):=by
 intro pins s σ H x y v u Q I rx ry h
 obtain ⟨a,b,xs,ys,rfl,rfl,ha,hb,hz,q⟩:=h
 by_cases hx:xs=[]
 ·subst hx
  cases (show v=Value.ref a from rx)
  cases (show u=Value.ref b from ry)
  obtain ⟨its,r1,T1,z1⟩:=I.tuple (SqT.of ha)
  obtain ⟨jts,r2,T2,z2⟩:=I.tuple (SqT.of hb)
  have e1:its=[]:=by cases r1;rfl
  subst e1
  obtain ⟨⟨cls,dd,data,sl⟩,o1,hc,n,hd⟩:=id T1
  obtain ⟨⟨cls2,dd2,data2,sl2⟩,o2,hc2,n2,hd2⟩:=id T2
  simp only at hc hd hc2 hd2
  subst hc hd hc2 hd2
  exact concat_meets ⟨_,o1,rfl⟩ ⟨_,o2,rfl⟩ noFill_tuple_add seq_tuple_add PySem.F.slot_tuple_add PySem.F.entry_tuple_add (PySem.F.args_tuple_add_2 _ _) (tuple_addW0 a b _ _ n n2 dd dd2 sl sl2 (by simp)) ⟨o1,o2,⟨.ref b,H,I,rfl,q b H (Same.refl _) (by simpa using hb)⟩⟩
 ·refine zkd pins s σ H _ _ v u Q I rx ry ⟨a,b,xs,ys,rfl,rfl,SqT.of ha,SqT.of hb,hx,hz,fun hy=>q a H (Same.refl _) (by rw [hy,List.append_nil];exact ha),fun _ p hp=>q p _ (fun c o hc=>?_) ze⟩
  rw [zj (zh hc hp)];exact hc
end
end L2
namespace Pv
open PySem L2
inductive RepL (H:Hp):List Th→List V→Prop where
 | nil:RepL H [] []
 | cons {t:Th} {v:V} {ts:List Th} {vs:List V} (h:Rep H t v) (r:RepL H ts vs):RepL H (t::ts) (v::vs)
theorem RepL.len {H:Hp}:∀{ts:List Th} {vs:List V},RepL H ts vs→vs.length=ts.length
 | _,_,.nil=>rfl
 | _,_,.cons _ r=>by rw [List.length_cons,List.length_cons,r.len]
theorem RepL.at {H:Hp}:∀{ts:List Th} {vs:List V},RepL H ts vs→∀(i:Nat) (x:V) (t:Th),vs[i]? =some x→ts[i]? =some t→Rep H t x
 | _,_,.nil,i,x,t,e,_=>by simp at e
 | _,_,.cons h r,0,x,t,e1,e2=>by
  simp at e1 e2
  subst e1;subst e2
  exact h
 | _,_,.cons h r,i+1,x,t,e1,e2=>r.at i x t (by simpa using e1) (by simpa using e2)
theorem RepL.keep {H H':Hp}(k:Tups H H'):∀{ts:List Th} {vs:List V},RepL H ts vs→RepL H' ts vs
 | _,_,.nil=>.nil
 | _,_,.cons h r=>.cons (h.keep k) (r.keep k)
theorem RepL.new {H:Hp}{ts:List Th}{vs:List V}{p:Addr}(r:RepL H ts vs)(hp:H p=none):Rep (upd H p (.tup vs)) (.tup ts) (.ref p):=
 .tup ze r.len fun i x t e1 e2=>(r.at i x t e1 e2).keep (Tups.new hp)
theorem RepL.of {H:Hp}:∀{ts:List Th} {vs:List V},vs.length=ts.length→(∀(i:Nat) (x:V) (t:Th),vs[i]? =some x→ts[i]? =some t→Rep H t x)→RepL H ts vs
 | [],[],_,_=>.nil
 | t::ts,v::vs,l,h=>.cons (h 0 v t rfl rfl) (RepL.of (by simpa using l) fun i x u e1 e2=>h (i+1) x u (by simpa using e1) (by simpa using e2))
 | [],_::_,l,_=>by simp at l
 | _::_,[],l,_=>by simp at l
theorem Rep.list {H:Hp}{ts:List Th}{v:V}(r:Rep H (.tup ts) v):∃a xs,v=.ref a∧H a=some (.tup xs)∧RepL H ts xs:=by
 cases r with
 | @tup a xs _ e l h=>exact ⟨a,xs,rfl,e,RepL.of l h⟩
theorem RepL.snoc {H:Hp}{t:Th}{v:V}(h:Rep H t v):∀{ts:List Th} {vs:List V},RepL H ts vs→RepL H (ts++ [t]) (vs++ [v])
 | _,_,.nil=>.cons h .nil
 | _,_,.cons h' r=>.cons h' (r.snoc h)
theorem RepL.uniq {H:Hp}:∀{ts us:List Th} {vs:List V},RepL H ts vs→RepL H us vs→ts=us
 | _,_,_,.nil,.nil=>rfl
 | _,_,_,.cons a r,.cons b q=>by rw [Rep.inj a b,r.uniq q]
open PySem.SeqAt in
theorem zkQ {X:Cx}{pins:List (Addr ×Obj)}{σ:L2.St}{H:Hp}{s:Shared}(I:Inv X pins σ H s){a b:Addr}{xs ys:List V}{ts us:List Th}{A:Around}(e:SqL X.K H a xs)(e':SqL X.K H b ys)(r:RepL H ts xs)(q:RepL H us ys)(hd:∀t∈ts,dep t≤50)(hu:A.units+60 < cLine):
  RcAt A s (.ref a) (.ref b) (eqL ts us)∧RcNeAt A s (.ref a) (.ref b) (!eqL ts us):=by
 obtain ⟨its,r1,T1,_⟩:=I.list e
 obtain ⟨jts,r2,T2,_⟩:=I.list e'
 have n1:=r1.length
 have n2:=r2.length
 have l1:=r.len
 have l2:=q.len
 by_cases hl:ts.length=us.length
 ·have key:∀j (h1:j < its.toArray.size) (h2:j < jts.toArray.size),EqAt A.in1 s its.toArray[j] jts.toArray[j] (eqT (ts[j]?.getD .non) (us[j]?.getD .non)):=fun j h1 h2=>by
   have h1':j < its.length:=by simpa using h1
   have h2':j < jts.length:=by simpa using h2
   obtain ⟨vx,ex,rx⟩:=r1.get (List.getElem?_eq_getElem (show j < xs.length by omega))
   obtain ⟨vy,ey,ry⟩:=r2.get (List.getElem?_eq_getElem (show j < ys.length by omega))
   have g1:ts[j]? =some ts[j]:=List.getElem?_eq_getElem (by omega)
   have g2:us[j]? =some us[j]:=List.getElem?_eq_getElem (by omega)
   have dj:=hd ts[j] (List.getElem_mem (by omega))
   rw [g1,g2]
   have z1:its.toArray[j]=vx:=by
    have:its[j]? =some its[j]:=List.getElem?_eq_getElem h1'
    rw [this] at ex
    simpa using Option.some.inj ex
   have z2:jts.toArray[j]=vy:=by
    have:jts[j]? =some jts[j]:=List.getElem?_eq_getElem h2'
    rw [this] at ey
    simpa using Option.some.inj ey
   rw [z1,z2]
   exact ziC I (r.at j _ _ (List.getElem?_eq_getElem (show j < xs.length by omega)) g1) (q.at j _ _ (List.getElem?_eq_getElem (show j < ys.length by omega)) g2) rx ry (by
    show A.units+1+dep ts[j]+1 < cLine
    omega)
  have hsz:its.toArray.size=jts.toArray.size:=by rw [List.size_toArray,List.size_toArray];omega
  have R:=RcAt.lists T1.isList T2.isList hsz (show A.units < cLine by omega) key
  have R':=RcNeAt.lists T1.isList T2.isList hsz (show A.units < cLine by omega) key
  have e3:(List.range its.toArray.size).all (fun j=>eqT (ts[j]?.getD .non) (us[j]?.getD .non))=eqL ts us:=by
   rw [zcB,List.size_toArray,show min ts.length us.length=its.length by omega,show (ts.length==us.length)=true by rw [hl];exact beq_self_eq_true _,Bool.and_true]
  rw [e3] at R R'
  exact ⟨R,R'⟩
 ·have hne:eqL ts us=false:=by
   cases z:eqL ts us with
   | true=>exact absurd (congrArg List.length ((zeU ts us).mp z)) hl
   | false=>rfl
  have hsz:(its.toArray.size !=jts.toArray.size)=true:=by
   rw [List.size_toArray,List.size_toArray,bne_iff_ne]
   omega
  rw [hne]
  exact ⟨RcAt.lists_lengths T1.isList T2.isList hsz (by omega),RcNeAt.lists_lengths T1.isList T2.isList hsz (by omega)⟩
section
variable {X:Cx}
theorem zmQ {k:Nat}(hr:Room k X.A):OpR X (compareOp .Eq) (fun x y H Q=>∃a b xs ys ts us,x=.ref a∧y=.ref b∧SqL X.K H a xs∧SqL X.K H b ys∧RepL H ts xs∧RepL H us ys∧(∀t∈ts,dep t≤50)∧Q (.bl (eqL ts us)) H):=by
 intro pins s σ H x y v w Q I rx ry h
 obtain ⟨a,b,xs,ys,ts,us,rfl,rfl,e1,e2,r1,r2,hd,q⟩:=h
 cases (show v=Value.ref a from rx)
 cases (show w=Value.ref b from ry)
 have hu:=hr.units
 exact (zkQ I e1 e2 r1 r2 hd (by omega)).1 _ _ _ _ ⟨.bl _,H,I,rfl,q⟩
theorem zjX {k:Nat}(hr:Room k X.A):OpR X (compareOp .NotEq) (fun x y H Q=>∃a b xs ys ts us,x=.ref a∧y=.ref b∧SqL X.K H a xs∧SqL X.K H b ys∧RepL H ts xs∧RepL H us ys∧(∀t∈ts,dep t≤50)∧Q (.bl (!eqL ts us)) H):=by
 intro pins s σ H x y v w Q I rx ry h
 obtain ⟨a,b,xs,ys,ts,us,rfl,rfl,e1,e2,r1,r2,hd,q⟩:=h
 cases (show v=Value.ref a from rx)
 cases (show w=Value.ref b from ry)
 have hu:=hr.units
 exact (zkQ I e1 e2 r1 r2 hd (by omega)).2 _ _ _ _ ⟨.bl _,H,I,rfl,q⟩
def mulS (x:Str)(n:Int):Str:=if n < 1 then Str.empty else if (n==1 || x.length==0)=true then x else ⟨(List.replicate n.toNat x.cps).foldl (· ++ ·) #[]⟩
end
end Pv
namespace Pv
open PySem L2
def zC (cs:List (Int ×Th))(n:Int):Option Th:=(cs.find? fun p=>decide (p.1=n)).map (·.2)
inductive DRep (H:Hp):List (Int ×Th)→List (Key ×V)→Prop where
 | nil:DRep H [] []
 | cons {n:Int} {t:Th} {v:V} {cs:List (Int ×Th)} {kvs:List (Key ×V)} (h:Rep H t v) (r:DRep H cs kvs):DRep H ((n,t)::cs) ((.inl n,v)::kvs)
theorem DRep.len {H:Hp}{cs:List (Int ×Th)}{kvs:List (Key ×V)}(r:DRep H cs kvs):kvs.length=cs.length:=by
 induction r with
 | nil=>rfl
 | cons _ _ ih=>rw [List.length_cons,List.length_cons,ih]
theorem DRep.keep {H H':Hp}(k:Tups H H'){cs:List (Int ×Th)}{kvs:List (Key ×V)}(r:DRep H cs kvs):DRep H' cs kvs:=by
 induction r with
 | nil=>exact .nil
 | cons h _ ih=>exact .cons (h.keep k) ih
theorem DRep.keys {H:Hp}{cs:List (Int ×Th)}{kvs:List (Key ×V)}(r:DRep H cs kvs):zem kvs=cs.map (·.1)∧L2.IntKeys kvs:=by
 induction r with
 | nil=>exact ⟨rfl,rfl⟩
 | @cons n t v cs kvs _ _ ih=>
  have e:zem ((.inl n,v)::kvs)=n::zem kvs:=rfl
  refine ⟨by rw [e,ih.1];rfl,?_⟩
  unfold L2.IntKeys
  rw [e,List.map_cons,List.map_cons]
  exact congrArg _ ih.2
theorem zap {n m:Int}{t:Th}{cs:List (Int ×Th)}:zC ((n,t)::cs) m=if n=m then some t else zC cs m:=by
 unfold zC
 rw [List.find?_cons]
 by_cases e:n=m
 ·rw [if_pos e,decide_eq_true e];rfl
 ·rw [if_neg e,decide_eq_false e]
theorem zdV {n m:Int}{v:V}{kvs:List (Key ×V)}:valV ((Sum.inl n,v)::kvs) (Sum.inl m:Key)=if n=m then some v else valV kvs (.inl m):=by
 by_cases e:n=m
 ·rw [if_pos e];exact zcW (by rw [e])
 ·rw [if_neg e]
  unfold valV
  rw [List.find?_cons]
  rw [decide_eq_false (fun z=>e (Sum.inl.inj z))]
theorem DRep.none {H:Hp}{cs:List (Int ×Th)}{kvs:List (Key ×V)}(r:DRep H cs kvs){n:Int}(h:zC cs n=.none):valV kvs (.inl n)=.none:=by
 induction r with
 | nil=>rfl
 | @cons m t v cs kvs _ _ ih=>
  rw [zap] at h
  rw [zdV]
  by_cases e:m=n
  ·rw [if_pos e] at h;cases h
  ·rw [if_neg e] at h ⊢;exact ih h
theorem DRep.some {H:Hp}{cs:List (Int ×Th)}{kvs:List (Key ×V)}(r:DRep H cs kvs){n:Int}{t:Th}(h:zC cs n=.some t):∃v,valV kvs (.inl n)=.some v∧Rep H t v:=by
 induction r with
 | nil=>cases h
 | @cons m u v cs kvs hv _ ih=>
  rw [zap] at h
  rw [zdV]
  by_cases e:m=n
  ·rw [if_pos e] at h ⊢;cases h;exact ⟨v,rfl,hv⟩
  ·rw [if_neg e] at h ⊢;exact ih h
theorem DRep.back {H:Hp}{cs:List (Int ×Th)}{kvs:List (Key ×V)}(r:DRep H cs kvs){n:Int}{v:V}(h:valV kvs (.inl n)=.some v):∃t,zC cs n=.some t∧Rep H t v:=by
 cases e:zC cs n with
 | none=>rw [r.none e] at h;cases h
 | some t=>
  obtain ⟨v',e',rv⟩:=r.some e
  rw [h] at e';cases e'
  exact ⟨t,rfl,rv⟩
theorem DRep.snoc {H:Hp}{cs:List (Int ×Th)}{kvs:List (Key ×V)}{n:Int}{t:Th}{v:V}(h:Rep H t v)(r:DRep H cs kvs):DRep H (cs++ [(n,t)]) (kvs++ [(.inl n,v)]):=by
 induction r with
 | nil=>exact .cons h .nil
 | cons h' _ ih=>exact .cons h' ih
theorem DRep.put {H:Hp}{cs:List (Int ×Th)}{kvs:List (Key ×V)}{n:Int}{t:Th}{v:V}(r:DRep H cs kvs)(h:Rep H t v)(hn:zC cs n=.none):DRep H (cs++ [(n,t)]) (putK kvs (.inl n) v):=by
 rw [ziR v (r.none hn)]
 exact r.snoc h
theorem DRep.again {H:Hp}{cs:List (Int ×Th)}{kvs:List (Key ×V)}{n:Int}{t:Th}{v:V}(r:DRep H cs kvs)(h:Rep H t v)(hn:zC cs n=.some t)(nd:(cs.map (·.1)).Nodup):DRep H cs (putK kvs (.inl n) v):=by
 have ha:(kvs.any fun kv=>decide (kv.1=(Sum.inl n:Key)))=true:=by
  obtain ⟨v',e,_⟩:=r.some hn
  unfold valV at e
  cases z:kvs.find? fun kv=>decide (kv.1=(Sum.inl n:Key)) with
  | none=>rw [z] at e;cases e
  | some p=>exact List.any_eq_true.mpr ⟨p,List.mem_of_find?_eq_some z,by have:=List.find?_some z;exact this⟩
 unfold putK
 rw [if_pos ha]
 clear ha
 induction r with
 | nil=>exact .nil
 | @cons m u v' cs kvs h' r' ih=>
  have nd':=List.nodup_cons.mp nd
  rw [List.map_cons]
  by_cases e:m=n
  ·subst e
   rw [if_pos rfl]
   rw [zap,if_pos rfl] at hn
   cases hn
   have rest:kvs.map (fun kv=>if kv.1=(Sum.inl m:Key) then (kv.1,v) else kv)=kvs:=by
    have:∀kv∈kvs,(if kv.1=(Sum.inl m:Key) then (kv.1,v) else kv)=kv:=fun kv hkv=>by
     refine if_neg fun z=>nd'.1 ?_
     have e1:=r'.keys
     have m1:(Sum.inl m:Key)∈kvs.map (·.1):=by rw [←z];exact List.mem_map_of_mem hkv
     rw [e1.2,List.mem_map] at m1
     obtain ⟨i,hi,ei⟩:=m1
     cases ei
     rw [←e1.1];exact hi
    rw [List.map_congr_left this,List.map_id']
   rw [rest]
   exact .cons h r'
  ·rw [if_neg (fun z=>e (Sum.inl.inj z))]
   rw [zap,if_neg e] at hn
   exact .cons h' (ih hn nd'.2)
theorem zeD {cs:List (Int ×Th)}{n:Int}{t:Th}(h:zC cs n=some t):(n,t)∈cs:=by
 induction cs with
 | nil=>cases h
 | cons p cs ih=>
  obtain ⟨m,u⟩:=p
  rw [zap] at h
  by_cases e:m=n
  ·rw [if_pos e] at h;cases h;subst e;exact List.mem_cons_self
  ·rw [if_neg e] at h;exact List.mem_cons_of_mem _ (ih h)
theorem zhV {cs:List (Int ×Th)}{n:Int}(h:n∈cs.map (·.1)):∃t,zC cs n=some t:=by
 induction cs with
 | nil=>cases h
 | cons p cs ih=>
  obtain ⟨m,u⟩:=p
  rw [zap]
  by_cases e:m=n
  ·exact ⟨u,if_pos e⟩
  ·rw [if_neg e]
   rw [List.map_cons,List.mem_cons] at h
   exact ih (h.resolve_left fun z=>e z.symm)
theorem zf2 {cs:List (Int ×Th)}{n:Int}(h:zC cs n=none):n∉cs.map (·.1):=fun z=>by
 obtain ⟨t,e⟩:=zhV z
 rw [h] at e;cases e
theorem zd6 {cs:List (Int ×Th)}{n m:Int}{t:Th}:zC (cs++ [(n,t)]) m=match zC cs m with | some u=>some u | none=>if n=m then some t else none:=by
 induction cs with
 | nil=>rw [List.nil_append,zap];rfl
 | cons p cs ih=>
  obtain ⟨k,u⟩:=p
  rw [List.cons_append,zap,zap]
  by_cases e:k=m
  ·rw [if_pos e,if_pos e]
  ·rw [if_neg e,if_neg e,ih]
def zne (cs:List (Int ×Th))(ns:List Int):List Th:=ns.map fun n=>(zC cs n).getD .non
end Pv
namespace L2
open PySem PySem.Spec PyProof.Rows Px
structure ClsM (K:PySem.W.Frag)(mg:Str→Option Value)(x:Str)(V:Addr)(mc:Value)(m:Str)(f:Addr):Prop where
 mg:mg x=some (.ref V)
 sp:PySem.W.specialIn K (.ref V) "__getattribute__" =some (some (.builtin "type.__getattribute__"))
 rd:PySem.W.readsIn K V mc=true
 fc:PySem.W.findCls K (.ref V) mc m=some (.val (.ref f))
 kp:PySem.W.keepIn K (.ref f)=true
structure Kdf (K:PySem.W.Frag)(mg:Str→Option Value)(x m qual:Str)(st:Stmt)(ps:List Str):Prop where
 ex:∃f fd V mc,Fun K m qual st f fd∧Binds K fd ps []∧ClsM K mg x V mc m f
structure Kfn (P:Program)(w:World)(K:PySem.W.Frag)(mg:Str→Option Value)(base:Heap)(x m:Str)(k:Nat)(ps:List Str)(sp:Sp):Prop where
 ex:∃f fd V mc,FnOk P w K mg base CX0 k f fd ps sp∧Binds K fd ps []∧ClsM K mg x V mc m f
section
variable {P:Program}{w:World}{K:PySem.W.Frag}{mg:Str→Option Value}{base:Heap}{x m qual:Str}{st:Stmt}{ps N:List Str}{sp:Sp}{k:Nat}
theorem Kdf.ok (D:Kdf K mg x m qual st ps)(S:zm N ps (zg st))(len:∀vs H Q E,sp vs H Q E→vs.length=ps.length)
  (hbody:∀(f:Addr) (cdv:Value) (A:Around) (outer:List Env) (s:Shared) (H:Hp) (vs:List V) (Q:VK) (E:XK),Room k (A.deeper (envOfC qual (zg st) s.heap.objs.size f cdv))→sp vs H Q E→
   ∃t,PSs (cxOf CX0 P w K mg base N qual (zg st) f cdv A outer s H E).nox (zN st) t∧t {nx:=fun _ H'=>Q .non H',rt:=Q} (start N vs) H):Kfn P w K mg base x m (k+1) ps sp:=by
 obtain ⟨f,fd,V,mc,F,b,me⟩:=D.ex
 exact ⟨f,fd,V,mc,F.ok S len (fun cdv A outer s H vs Q E hr h=>hbody f cdv A outer s H vs Q E hr h),b,me⟩
variable {f V:Addr}{mc:Value}{od an:Option Addr}{sl:Array (Option Value)}{oc kV dc pm cd ct:Value}{h:Heap}
theorem zlG (X:K.In h)(G:h.Ns mainGlobals mg)(n:PySem.W.nsIn K mainGlobals x=some (some (.ref V)))(g:PySem.W.specialIn K (.ref V) "__getattribute__" =some (some (.builtin "type.__getattribute__"))) (rd:PySem.W.readsIn K V mc=true) (fc:PySem.W.findCls K (.ref V) mc m=some (.val (.ref f)))
  (l:K.lookup f=some ⟨oc,od,.func (PySem.W.fnOf m qual (zag st) (zN st) (zg st) .none kV dc pm an cd ct),sl⟩) (c:PySem.W.codeIn K cd qual=true) (k:PySem.W.keepIn K (.ref f)=true)
  (b:∀(kV doc pm:Value) (an:Option Addr) (cdv ct:Value) (us:List Value),us.length=ps.length→bindArgs (PySem.W.fnOf m qual (zag st) (zN st) (zg st) .none kV doc pm an cdv ct) ⟨us,[]⟩=pure (ps.zip us)):Kdf K mg x m qual st ps:=
 ⟨_,_,V,mc,zbk l c k,(zbk l c k).binds b,⟨PySem.W.mg_of X G n,g,rd,fc,k⟩⟩
end
section
variable {X:Cx}{x m:Str}{ps:List Str}{sp:Sp}{k k':Nat}{e:Expr}{es:List Expr}{t:TA}{p pos apos:Pos}
theorem zlM {pl:Sem Bool}(F:Kfn X.prog X.w X.K X.mg X.base x m k ps sp)(hr:Room k' X.A)(hle:k≤k')(hg:Gl X x)(ha:PA X (e::es) t)(hd:(x==("__debug__" :Str))=false:=by decide)
  (hst:starEach (e::es) X.env=(false,eval e X.env)::starEach es X.env:=by rfl) (hpl:∀pos,(backTo pos (starEach es X.env)).any (·.1)=false:=by intro _;rfl)
  (ht:eval (.Call (.Attribute (.Name x p) m apos) (e::es) [] pos) X.env=(do
   let ov←eval (.Name x p) X.env
   standAt apos.atName
   let (f,first) ←holding [ov] (getMethod ov m pl)
   callWith pos f first (backTo pos (starEach (e::es) X.env)) (backToKw pos (keywordEach [] X.env))):=by rfl):
  PE X (.Call (.Attribute (.Name x p) m apos) (e::es) [] pos) (zg6 sp [] E0 t):=by
 obtain ⟨f,fd,V,mc,a,b,M⟩:=F.ex
 intro pins s σ H Q I h
 refine PySem.W.methodCall_KW (pl:=pl) (thn (zv (v:=.ref V) hg M.mg rfl hd pins s σ H (fun v H1=>v=.ref V∧H1=H) I ⟨rfl,rfl⟩) fun u s1 ⟨v,H1,I1,r1,e1,e2⟩=>?_) ht
 subst e1 e2
 obtain rfl:u=Value.ref V:=r1
 refine PySem.W.method_cls I1.kIn M.sp (PySem.W.cls_value I1.kIn M.rd M.fc rfl ?_)
 have I2:=I1.tok (s1.toks+1)
 refine PySem.W.callWith_K (first:=[]) (h₀:=X.base) I.ok.mod.kin M.kp (thn (ha pos pins _ σ H1 _ I2 h) fun us s2 ⟨vs,H2,I3,r,q2⟩=>⟨I3.kIn,?_⟩) hst (hpl _)
 exact zgx (us:=us) (vs:=vs) a (hr.mono hle) b .nil zjg I3 r q2
end
end L2
namespace L2
open PySem PySem.Spec PyProof.Rows
def zl1 (K:PySem.W.Frag)(J:It)(p:Addr)(tt:TT)(te:TE)(H1:Hp)(Q:VK):Prop:=
 ∃W:Nat→Nat→List V→Hp→Prop,(∃m,W 0 m [] (upd H1 p (.lst [])))∧∀i m acc H,W i m acc H→
  (J.stop i H∧Q (.ref p) H)∨(J.go i H∧∀x H',J.yld i H x H'→∃a y z,x=.ref a∧SqT K H' a [y,z]∧tt [some y,some z] H' fun ok H2=>
   if ok=true then te [some y,some z] H2 fun v H3=>H3 p=some (.lst acc)∧acc.length < sizeLine∧∃m',m' < m∧W (i+1) m' (acc++ [v]) (upd H3 p (.lst (acc++ [v])))
   else∃m',m' < m∧W (i+1) m' acc H2)
def zm8 (K:PySem.W.Frag)(wi:TI)(tt:TT)(te:TE):TE:=fun σ H Q=>wi σ H fun J H1=>∀p,H1 p=none→zl1 K J p tt te H1 Q
section
variable {X:Cx}{x x2:Str}{scope:Scope}{pins:List (Addr ×Obj)}{σ:St}{H:Hp}{s:Shared}
variable {iter elt:Expr}{ifs:List Expr}{px px2 tpos pos:Pos}{kt:Nat}{wi:TI}{tt:TT}{te:TE}
end
end L2
namespace L2
open PySem PySem.Spec PyProof.Rows
end L2
namespace Pv
open PySem L2
theorem szL {n:Nat}(h:n≤100000):n≤sizeLine:=Nat.le_trans h (by rw [sizeLine_eq];decide)
theorem zgP {J:It}{n:Nat}{σ:St}{js:List Nat}{tt:TT}{te:TE}{Q:VK}{H1:Hp}{p:Addr}(Pv:Nat→List V→Hp→Prop)(h0:Pv 0 [] (upd H1 p (.lst [])))
  (hg:∀i acc H,i < n→Pv i acc H→J.go i H) (ht:∀acc H,Pv n acc H→J.stop n H)
  (hs:∀i acc H x H',i < n→Pv i acc H→J.yld i H x H'→tt (some x::frees σ js) H' fun ok H2=>
   if ok=true then te (some x::frees σ js) H2 fun y H3=>H3 p=some (.lst acc)∧acc.length < sizeLine∧∃m',m' < n - i∧(m'=n - (i+1)∧i+1≤n∧Pv (i+1) (acc++ [y]) (upd H3 p (.lst (acc++ [y]))))
   else∃m',m' < n - i∧(m'=n - (i+1)∧i+1≤n∧Pv (i+1) acc H2)) (hd:∀acc H,Pv n acc H→Q (.ref p) H):
  zjh J p σ js tt te H1 Q:=by
 refine ⟨fun i m acc H=>m=n - i∧i≤n∧Pv i acc H,⟨n,by simp,Nat.zero_le _,h0⟩,?_⟩
 rintro i m acc H ⟨rfl,hi,p⟩
 by_cases hlt:i < n
 ·exact .inr ⟨hg i acc H hlt p,fun x H' y=>hs i acc H x H' hlt p y⟩
 ·have e:i=n:=by omega
  subst e
  exact .inl ⟨ht acc H p,hd acc H p⟩
theorem nxt {i n:Nat}{C:Prop}(h:i < n)(c:C):∃m',m' < n - i∧(m'=n - (i+1)∧i+1≤n∧C):=⟨_,by omega,rfl,h,c⟩
def numOf (l:List Nat):Int:=l.foldl (fun (n:Int) (c:Nat)=>n * 128+(c:Int)) 0
theorem zf8 (l:List Nat)(c:Nat):numOf (l++ [c])=numOf l * 128+c:=by
 unfold numOf;rw [List.foldl_append];rfl
def chunk (x:Str)(k:Nat):List Nat:=(x.cps.toList.drop (7 * k)).take 7
def ze8 (x:Str)(k:Nat):Str:=⟨(chunk x k).toArray⟩
def za9 (x:Str):Nat:=(x.length+6) / 7
def zc6 (x:Str):List Int:=(List.range (za9 x)).map fun k=>numOf (chunk x k)
mutual
def zaE:Th→List Int
 | .non=>[1]
 | .int n=>[2,(n+10 ^ 30) / 10 ^ 15,(n+10 ^ 30) % 10 ^ 15]
 | .str x=>[3,(x.length:Int)]++zc6 x
 | .tup ts=>[4,(ts.length:Int)]++zaq ts
def zaq:List Th→List Int
 | []=>[]
 | t::r=>zaE t++zaq r
end
theorem zdt:∀(ts:List Th) (t:Th),zaq (ts++ [t])=zaq ts++zaE t
 | [],t=>by simp [zaq]
 | u::r,t=>by
  have:=zdt r t
  show zaE u++zaq (r++ [t])=zaE u++zaq r++zaE t
  rw [this,List.append_assoc]
theorem zfp {ts:List Th}{i:Nat}{t:Th}(h:ts[i]? =some t):zaq (ts.take (i+1))=zaq (ts.take i)++zaE t:=by
 rw [List.take_add_one,h]
 exact zdt _ _
mutual
theorem zdi:∀t:Th,Wf t→(zaE t).length≤11 * nodes t
 | .non,_=>by show 1≤11 * 1;omega
 | .int n,_=>by show 3≤11 * 1;omega
 | .str x,h=>by
  have h1:x.length≤60:=h.1
  show ([3,(x.length:Int)]++zc6 x).length≤11 * 1
  have h2:(zc6 x).length=za9 x:=by unfold zc6;rw [List.length_map,List.length_range]
  rw [List.length_append,h2]
  show 2+za9 x≤11
  unfold za9
  omega
 | .tup ts,h=>by
  have:=zcJ ts h.2
  show ([4,(ts.length:Int)]++zaq ts).length≤11 * (1+zbi ts)
  rw [List.length_append]
  show 2+(zaq ts).length≤_
  omega
theorem zcJ:∀ts:List Th,WfL ts→(zaq ts).length≤11 * zbi ts
 | [],_=>by show 0≤_;omega
 | t::r,h=>by
  have h1:=zdi t h.1
  have h2:=zcJ r h.2
  show (zaE t++zaq r).length≤11 * (nodes t+zbi r)
  rw [List.length_append]
  omega
end
theorem zcc:∀(ts:List Th) (i:Nat),(zaq (ts.take i)).length≤(zaq ts).length
 | [],i=>by rw [List.take_nil];exact Nat.le_refl _
 | t::r,0=>by show 0≤_;omega
 | t::r,i+1=>by
  have:=zcc r i
  show (zaE t++zaq (r.take i)).length≤(zaE t++zaq r).length
  rw [List.length_append,List.length_append]
  omega
theorem zhB {x:Str}{k:Nat}(h:k < za9 x):cutS x (some (0+(k:Int) * 7)) (some (0+(k:Int) * 7+7))=ze8 x k:=by
 unfold za9 at h
 have e1:(0+(k:Int) * 7)=((7 * k:Nat):Int):=by omega
 have e2:(0+(k:Int) * 7+7)=((7 * k+7:Nat):Int):=by omega
 unfold cutS ze8 chunk
 rw [e2,e1,HT.sIx_nat,HT.sIx_nat]
 have hl:x.cps.toList.length=x.length:=Array.length_toList
 have a1:min (7 * k) x.length=7 * k:=by omega
 rw [a1]
 refine congrArg (fun l=>(⟨List.toArray l⟩:Str)) ?_
 by_cases hb:7 * k+7≤x.length
 ·rw [show min (7 * k+7) x.length - 7 * k=7 by omega]
 ·rw [List.take_of_length_le (by rw [List.length_drop];omega),List.take_of_length_le (by rw [List.length_drop];omega)]
theorem zhO {x:Str}:(((x.length:Int)+7 - 1) / 7).toNat=za9 x:=by unfold za9;omega
def zcU (l:List Int):Int:=l.foldl (fun h c=>(h * 1234567890123456789+c) % 2305843009213693951) 7
def zk (t:Th):Int:=zcU (zaE t)+1
theorem zen (l:List Int)(c:Int):zcU (l++ [c])=(zcU l * 1234567890123456789+c) % 2305843009213693951:=by
 unfold zcU;rw [List.foldl_append];rfl
theorem zgw {l:List Int}{i:Nat}{c:Int}(h:l[i]? =some c):zcU (l.take (i+1))=(zcU (l.take i) * 1234567890123456789+c) % 2305843009213693951:=by
 rw [List.take_add_one,h];exact zen _ _
theorem zdx (l:List Int):0≤zcU l∧zcU l < 2305843009213693951:=by
 rcases List.eq_nil_or_concat l with rfl | ⟨r,c,rfl⟩
 ·exact ⟨by decide,by decide⟩
 ·rw [List.concat_eq_append,zen]
  exact ⟨Int.emod_nonneg _ (by decide),Int.emod_lt_of_pos _ (by decide)⟩
end Pv
namespace Pv
theorem zet:∀{ts:List Th} {i:Nat} {t:Th},ts[i]? =some t→nodes t≤zbi ts
 | [],_,_,e=>by simp at e
 | u::r,0,t,e=>by simp at e;subst e;exact Nat.le_add_right _ _
 | u::r,i+1,t,e=>Nat.le_trans (zet (i:=i) (by simpa using e)) (Nat.le_add_left _ _)
end Pv
namespace Pv
open L2
theorem tt1 {σ:L2.St}{H:Hp}{A B:Hp→Prop}(h:A H):zg1 σ H fun ok H2=>if ok=true then A H2 else B H2:=by
 show if true=true then A H else B H
 rw [if_pos rfl]
 exact h
end Pv
namespace Pv
open PySem L2
def zaG:Th→Int
 | .non=>0
 | .int _=>1
 | .str _=>2
 | .tup _=>3
mutual
def zu:Th→Th→Bool
 | .non,.non=>false
 | .int a,.int b=>decide (a < b)
 | .str a,.str b=>decide (a.cps.toList < b.cps.toList)
 | .tup a,.tup b=>za1 a b
 | t,u=>decide (zaG t < zaG u)
def za1:List Th→List Th→Bool
 | [],[]=>false
 | [],_::_=>true
 | _::_,[]=>false
 | t::r,u::q=>if eqT t u=true then za1 r q else zu t u
end
mutual
def rowT:Th→List Int
 | .non=>[0]
 | .int a=>[1,a]
 | .str x=>[2]++x.cps.toList.map (fun (c:Nat)=>(c:Int))++ [-1]
 | .tup ts=>[3]++rowL ts++ [-1]
def rowL:List Th→List Int
 | []=>[]
 | t::r=>rowT t++rowL r
end
theorem zg5:∀(p a b:List Int),HT.lexLt (p++a) (p++b)=HT.lexLt a b
 | [],_,_=>rfl
 | x::r,a,b=>by
  rw [List.cons_append,List.cons_append,HT.lexLt_cons,if_pos rfl]
  exact zg5 r a b
theorem zbh {x y:Int}(h:x≠y)(a b:List Int):HT.lexLt (x::a) (y::b)=decide (x < y):=by rw [HT.lexLt_cons,if_neg h]
theorem zg7:∀(x y:List Nat) (a b:List Int),x≠y→HT.lexLt (x.map (fun (c:Nat)=>(c:Int))++ -1::a) (y.map (fun (c:Nat)=>(c:Int))++ -1::b)=decide (x < y)
 | [],[],_,_,h=>absurd rfl h
 | [],d::y,a,b,_=>by
  show HT.lexLt (-1::a) ((d:Int)::_)=_
  rw [zbh (by omega),decide_eq_true (by omega)]
  exact (decide_eq_true (List.nil_lt_cons d y)).symm
 | c::x,[],a,b,_=>by
  show HT.lexLt ((c:Int)::_) (-1::b)=_
  rw [zbh (by omega),decide_eq_false (by omega)]
  exact (decide_eq_false (List.not_lt_nil _)).symm
 | c::x,d::y,a,b,h=>by
  show HT.lexLt ((c:Int)::_) ((d:Int)::_)=_
  by_cases e:c=d
  ·subst e
   rw [HT.lexLt_cons,if_pos rfl]
   have:=zg7 x y a b (fun z=>h (by rw [z]))
   refine Eq.trans this ?_
   rw [Bool.eq_iff_iff]
   simp [List.cons_lt_cons_iff]
  ·rw [zbh (by omega)]
   rw [Bool.eq_iff_iff]
   simp [List.cons_lt_cons_iff,e]
theorem zc0 (t:Th):∃r,rowT t=zaG t::r:=by
 cases t with
 | non=>exact ⟨[],rfl⟩
 | int a=>exact ⟨[a],rfl⟩
 | str x=>exact ⟨_,rfl⟩
 | tup ts=>exact ⟨_,rfl⟩
theorem zg9 (t:Th):0≤zaG t:=by
 cases t with
 | non=>exact (by decide:(0:Int)≤0)
 | int _=>exact (by decide:(0:Int)≤1)
 | str _=>exact (by decide:(0:Int)≤2)
 | tup _=>exact (by decide:(0:Int)≤3)
theorem zlz {x y:Str}(h:x≠y):x.cps.toList≠y.cps.toList:=fun z=>h (by
 rcases x with ⟨a⟩
 rcases y with ⟨b⟩
 have:a=b:=Array.toList_inj.mp z
 rw [this])
theorem zam {t u:Th}(h:zaG t≠zaG u)(a b:List Int):HT.lexLt (rowT t++a) (rowT u++b)=decide (zaG t < zaG u):=by
 obtain ⟨r,e⟩:=zc0 t
 obtain ⟨q,e'⟩:=zc0 u
 rw [e,e',List.cons_append,List.cons_append]
 exact zbh h _ _
mutual
theorem zkO:∀(t u:Th) (a b:List Int),t≠u→HT.lexLt (rowT t++a) (rowT u++b)=zu t u
 | .non,.non,_,_,h=>absurd rfl h
 | .non,.int _,a,b,_=>zam (t:=.non) (u:=.int _) (by show (0:Int)≠1;decide) a b
 | .non,.str _,a,b,_=>zam (t:=.non) (u:=.str _) (by show (0:Int)≠2;decide) a b
 | .non,.tup _,a,b,_=>zam (t:=.non) (u:=.tup _) (by show (0:Int)≠3;decide) a b
 | .int _,.non,a,b,_=>zam (t:=.int _) (u:=.non) (by show (1:Int)≠0;decide) a b
 | .int x,.int y,a,b,h=>by
  show HT.lexLt (1::x::a) (1::y::b)=decide (x < y)
  rw [HT.lexLt_cons,if_pos rfl]
  exact zbh (fun z=>h (by rw [z])) _ _
 | .int _,.str _,a,b,_=>zam (t:=.int _) (u:=.str _) (by show (1:Int)≠2;decide) a b
 | .int _,.tup _,a,b,_=>zam (t:=.int _) (u:=.tup _) (by show (1:Int)≠3;decide) a b
 | .str _,.non,a,b,_=>zam (t:=.str _) (u:=.non) (by show (2:Int)≠0;decide) a b
 | .str _,.int _,a,b,_=>zam (t:=.str _) (u:=.int _) (by show (2:Int)≠1;decide) a b
 | .str x,.str y,a,b,h=>by
  have e:∀(z:Str) (w:List Int),rowT (.str z)++w=2::(z.cps.toList.map (fun (c:Nat)=>(c:Int))++ -1::w):=fun z w=>by
   show ([2]++_++ [-1])++w=_
   simp
  rw [e,e,HT.lexLt_cons,if_pos rfl]
  exact zg7 _ _ a b (zlz fun z=>h (by rw [z]))
 | .str _,.tup _,a,b,_=>zam (t:=.str _) (u:=.tup _) (by show (2:Int)≠3;decide) a b
 | .tup _,.non,a,b,_=>zam (t:=.tup _) (u:=.non) (by show (3:Int)≠0;decide) a b
 | .tup _,.int _,a,b,_=>zam (t:=.tup _) (u:=.int _) (by show (3:Int)≠1;decide) a b
 | .tup _,.str _,a,b,_=>zam (t:=.tup _) (u:=.str _) (by show (3:Int)≠2;decide) a b
 | .tup x,.tup y,a,b,h=>by
  have e:∀(z:List Th) (w:List Int),rowT (.tup z)++w=3::(rowL z++ -1::w):=fun z w=>by
   show ([3]++_++ [-1])++w=_
   simp
  rw [e,e,HT.lexLt_cons,if_pos rfl]
  exact zkE x y a b (fun z=>h (by rw [z]))
theorem zkE:∀(x y:List Th) (a b:List Int),x≠y→HT.lexLt (rowL x++ -1::a) (rowL y++ -1::b)=za1 x y
 | [],[],_,_,h=>absurd rfl h
 | [],u::q,a,b,_=>by
  obtain ⟨r,e⟩:=zc0 u
  have:=zg9 u
  show HT.lexLt (-1::a) ((rowT u++rowL q)++ -1::b)=true
  rw [e,List.cons_append,List.cons_append,zbh (by omega),decide_eq_true (by omega)]
 | t::r,[],a,b,_=>by
  obtain ⟨r',e⟩:=zc0 t
  have:=zg9 t
  show HT.lexLt ((rowT t++rowL r)++ -1::a) (-1::b)=false
  rw [e,List.cons_append,List.cons_append,zbh (by omega),decide_eq_false (by omega)]
 | t::r,u::q,a,b,h=>by
  show HT.lexLt ((rowT t++rowL r)++ -1::a) ((rowT u++rowL q)++ -1::b)=if eqT t u=true then za1 r q else zu t u
  rw [List.append_assoc,List.append_assoc]
  by_cases e:t=u
  ·subst e
   rw [zg5,if_pos (zaw t)]
   exact zkE r q a b (fun z=>h (by rw [z]))
  ·rw [if_neg (fun z=>e ((zbw t u).mp z))]
   exact zkO t u _ _ e
end
theorem zc2:∀l:List Int,HT.lexLt l l=false
 | []=>rfl
 | x::r=>by rw [HT.lexLt_cons,if_pos rfl];exact zc2 r
mutual
theorem zcX:∀t:Th,zu t t=false
 | .non=>rfl
 | .int a=>by show decide (a < a)=false;exact decide_eq_false (by omega)
 | .str x=>by show decide (x.cps.toList < x.cps.toList)=false;exact decide_eq_false (List.lt_irrefl _)
 | .tup ts=>zcC ts
theorem zcC:∀ts:List Th,za1 ts ts=false
 | []=>rfl
 | t::r=>by
  show (if eqT t t=true then za1 r r else zu t t)=false
  rw [if_pos (zaw t)]
  exact zcC r
end
theorem zaQ (t u:Th):HT.lexLt (rowT t) (rowT u)=zu t u:=by
 by_cases h:t=u
 ·subst h;rw [zc2,zcX]
 ·have:=zkO t u [] [] h
  rwa [List.append_nil,List.append_nil] at this
theorem zfz {t u:Th}(h:zaG t≠zaG u):zu t u=decide (zaG t < zaG u):=by
 have:=zam h [] []
 rwa [List.append_nil,List.append_nil,zaQ] at this
theorem zfl {ts us:List Th}{i:Nat}(h1:i < ts.length)(h2:i < us.length):za1 (ts.drop i) (us.drop i)=if eqT ts[i] us[i]=true then za1 (ts.drop (i+1)) (us.drop (i+1)) else zu ts[i] us[i]:=by
 rw [List.drop_eq_getElem_cons h1,List.drop_eq_getElem_cons h2]
 rfl
theorem zf1 (ts us:List Th):za1 (ts.drop (min ts.length us.length)) (us.drop (min ts.length us.length))=decide (ts.length < us.length):=by
 by_cases h:ts.length < us.length
 ·rw [Nat.min_eq_left (by omega),List.drop_length,List.drop_eq_getElem_cons h,decide_eq_true h]
  rfl
 ·rw [Nat.min_eq_right (by omega),List.drop_length,decide_eq_false h]
  cases e:ts.drop us.length <;> rfl
end Pv
namespace Pv
open PySem L2
def Reps (H:Hp)(ts:List Th)(xs:List V):Prop:=xs.length=ts.length∧∀(i:Nat) (x:V) (t:Th),xs[i]? =some x→ts[i]? =some t→Rep H t x
theorem Reps.keep {H H':Hp}{ts:List Th}{xs:List V}(r:Reps H ts xs)(k:Tups H H'):Reps H' ts xs:=⟨r.1,fun i x t h1 h2=>(r.2 i x t h1 h2).keep k⟩
theorem Reps.snoc {H:Hp}{ts:List Th}{xs:List V}{t:Th}{x:V}(r:Reps H ts xs)(h:Rep H t x):Reps H (ts++ [t]) (xs++ [x]):=by
 refine ⟨by simp [r.1],fun i y u h1 h2=>?_⟩
 have hl:=r.1
 by_cases hi:i < xs.length
 ·rw [List.getElem?_append_left hi] at h1
  rw [List.getElem?_append_left (by omega)] at h2
  exact r.2 i y u h1 h2
 ·rw [List.getElem?_append_right (by omega)] at h1 h2
  cases e:i - xs.length with
  | zero=>
   rw [e] at h1
   rw [show i - ts.length=0 by omega] at h2
   cases h1;cases h2;exact h
  | succ k=>rw [e] at h1;simp at h1
theorem Reps.nil {H:Hp}:Reps H [] []:=⟨rfl,fun i x t h=>by simp at h⟩
theorem Reps.take {H:Hp}{ts:List Th}{xs:List V}(r:Reps H ts xs)(n:Nat):Reps H (ts.take n) (xs.take n):=by
 refine ⟨by rw [List.length_take,List.length_take,r.1],fun i x t h1 h2=>?_⟩
 by_cases hi:i < n
 ·rw [List.getElem?_take_of_lt hi] at h1 h2
  exact r.2 i x t h1 h2
 ·rw [List.getElem?_take_eq_none (by omega)] at h1;cases h1
theorem Reps.drop {H:Hp}{ts:List Th}{xs:List V}(r:Reps H ts xs)(n:Nat):Reps H (ts.drop n) (xs.drop n):=by
 refine ⟨by rw [List.length_drop,List.length_drop,r.1],fun i x t h1 h2=>?_⟩
 rw [List.getElem?_drop] at h1 h2
 exact r.2 _ x t h1 h2
theorem Reps.app {H:Hp}{ts us:List Th}{xs ys:List V}(r:Reps H ts xs)(q:Reps H us ys):Reps H (ts++us) (xs++ys):=by
 refine ⟨by simp [r.1,q.1],fun i x t h1 h2=>?_⟩
 have hl:=r.1
 by_cases hi:i < xs.length
 ·rw [List.getElem?_append_left hi] at h1
  rw [List.getElem?_append_left (by omega)] at h2
  exact r.2 i x t h1 h2
 ·rw [List.getElem?_append_right (by omega)] at h1 h2
  rw [hl] at h1
  exact q.2 _ x t h1 h2
end Pv
namespace L2
open PySem PySem.Spec PyProof.Rows
section
variable {X:Cx}{e:Expr}{es:List Expr}{te:TE}{pos:Pos}
theorem zeF:OpR X (compareOp .LtE) (fun x y H Q=>∃i j,x=.str i∧y=.str j∧Q (.bl (!decide (j.cps.toList < i.cps.toList))) H):=by
 intro pins s σ H x y v u Q I rx ry h
 obtain ⟨i,j,rfl,rfl,q⟩:=h
 obtain ⟨t,rfl⟩:=rx
 obtain ⟨t',rfl⟩:=ry
 exact PySem.P.le_str (zM I q rfl)
def rJoin:V→List V→Hp→VK→Prop:=fun x vs H Q=>∃z p ys,x=.str z∧vs=[.ref p]∧H p=some (.lst (ys.map V.str))∧(ys.map (·.length)).sum+ys.length * z.length≤16777216∧Q (.str (Str.join z ys)) H
def tFmt (te:TE):TE:=fun σ H Q=>te σ H fun x H1=>(∃y,x=.str y∧y.length≤sizeLine∧Q (.str y) H1)∨∃i:Int,x=.int i∧i.natAbs.log2 < 1920∧Q (.str (toString i)) H1
abbrev TJ:=Str→St→Hp→VK→Prop
def PJ (X:Cx)(es:List Expr)(t:TJ):Prop:=∀(pins:List (Addr ×Obj)) (s:Shared) (σ:St) (H:Hp) (Q:VK) (out:Str),Inv X pins σ H s→t out σ H Q→wpAny (model X.prog X.w) X.A (joinParts out (evalEach es X.env)) (EP X pins σ Q) X.xe s
def tJ (te:TE)(t:TJ):TJ:=fun out σ H Q=>te σ H fun x H1=>∃y,x=.str y∧(out++y).length≤sizeLine∧t (out++y) σ H1 Q
end
end L2
namespace Pv
open PySem L2 PyProof.Rows PySem.NumText
def tx (l:List Nat):Str:=⟨l.toArray⟩
def digs (m:Nat):List Nat:=(Nat.toDigits 10 m).map Char.toNat
def numL (i:Int):List Nat:=(Str.ofString (toString i)).cps.toList
mutual
def wrT:Th→List Nat
 | .non=>[111]
 | .int i=>110::(numL i++ [59])
 | .str x=>116::(numL x.length++58::x.cps.toList)
 | .tup ts=>40::(wrL ts++ [41])
def wrL:List Th→List Nat
 | []=>[]
 | t::r=>wrT t++wrL r
end
end Pv
namespace Pv
open PySem L2 PyProof.Rows PySem.NumText
theorem ze5:∀a b c:List Int,HT.lexLt a c=true→HT.lexLt a b=true∨HT.lexLt b c=true
 | [],[],[],h=>by cases h
 | [],[],_::_,_=>.inr rfl
 | [],_::_,_,_=>.inl rfl
 | _::_,_,[],h=>by cases h
 | _::_,[],_::_,_=>.inr rfl
 | x::a,y::b,z::c,h=>by
  rw [HT.lexLt_cons] at h
  rw [HT.lexLt_cons,HT.lexLt_cons]
  by_cases e1:x=y
  ·by_cases e2:y=z
   ·rw [if_pos (e1.trans e2)] at h
    rw [if_pos e1,if_pos e2]
    exact ze5 a b c h
   ·rw [if_neg (fun q=>e2 (e1.symm.trans q))] at h
    rw [if_neg e2]
    have:=of_decide_eq_true h
    exact .inr (decide_eq_true (by omega))
  ·by_cases e2:y=z
   ·rw [if_neg (fun q=>e1 (q.trans e2.symm))] at h
    rw [if_neg e1]
    have:=of_decide_eq_true h
    exact .inl (decide_eq_true (by omega))
   ·rw [if_neg e1,if_neg e2]
    by_cases hx:x < y
    ·exact .inl (decide_eq_true hx)
    ·refine .inr (decide_eq_true ?_)
     by_cases e3:x=z
     ·omega
     ·rw [if_neg e3] at h
      have:=of_decide_eq_true h
      omega
theorem zgs {t u:Th}(h:zu t u=true):zu u t=false:=by
 cases e:zu u t with
 | false=>rfl
 | true=>
  rw [←zaQ] at h e
  have:∀a b:List Int,HT.lexLt a b=true→HT.lexLt b a=true→False:=fun a b=>by
   induction a generalizing b with
   | nil=>
    intro p q
    cases b <;> cases q
   | cons x a ih=>
    intro p q
    cases b with
    | nil=>cases p
    | cons y b=>
     rw [HT.lexLt_cons] at p q
     by_cases z:x=y
     ·rw [if_pos z] at p
      rw [if_pos z.symm] at q
      exact ih b p q
     ·rw [if_neg z] at p
      rw [if_neg (fun k=>z k.symm)] at q
      have:=of_decide_eq_true p
      have:=of_decide_eq_true q
      omega
  exact (this _ _ h e).elim
def leT (t u:Th):Prop:=zu u t=false
theorem leT.refl (t:Th):leT t t:=zcX t
theorem leT.trans {t u v:Th}(a:leT t u)(b:leT u v):leT t v:=by
 show zu v t=false
 cases e:zu v t with
 | false=>rfl
 | true=>
  rw [←zaQ] at e
  rcases ze5 _ (rowT u) _ e with h | h
  ·rw [zaQ] at h;rw [show zu v u=false from b] at h;cases h
  ·rw [zaQ] at h;rw [show zu u t=false from a] at h;cases h
theorem leT.of {t u:Th}(h:zu t u=true):leT t u:=zgs h
end Pv
namespace Pv
open PySem L2
abbrev zdj:Stmt:=top 74
theorem zdU:zm ["cell","low"] ["cell"] (zg zdj):=⟨rfl,rfl,rfl,by decide+kernel,rfl,by decide+kernel,by decide+kernel⟩
abbrev zcI:Stmt:=top 75
theorem zdv:zm ["row","many","got"] ["row","many"] (zg zcI):=⟨rfl,rfl,rfl,by decide+kernel,rfl,by decide+kernel,by decide+kernel⟩
abbrev zlu:Stmt:=top 76
abbrev zkW:Stmt:=top 77
theorem szl {n:Nat}(h:n≤1000):n≤sizeLine:=Nat.le_of_lt (zhz h)
def RowV (H:Hp)(row:Addr):Prop:=∃a m:Int,H row=some (.lst [.int a,.int m])∧(m=0∨(m=1∧0≤a∧a < 999999937))
theorem RowV.keep {H H':Hp}{row:Addr}(r:RowV H row)(s:Same H H'):RowV H' row:=by
 obtain ⟨a,m,e,h⟩:=r
 exact ⟨a,m,s _ _ e,h⟩
theorem RowV.new {H:Hp}{row p:Addr}{o:HO}(r:RowV H row)(h:H p=none):RowV (upd H p o) row:=by
 obtain ⟨a,m,e,k⟩:=r
 exact ⟨a,m,by rw [zj (zh e h)];exact e,k⟩
theorem RowV.ne {H:Hp}{row p:Addr}(r:RowV H row)(h:H p=none):p≠row:=by
 obtain ⟨a,m,e,_⟩:=r
 exact (zh e h).symm
theorem RowV.noT {H:Hp}{row:Addr}(r:RowV H row):NoT [row] H:=fun b hb xs z=>by
 cases List.mem_singleton.mp hb
 obtain ⟨a,m,e,_⟩:=r
 rw [e] at z;cases z
theorem not1 {a b:Addr}(h:a≠b):a∉ [b]:=fun z=>h (List.mem_singleton.mp z)
theorem zo {H H1:Hp}{p:Addr}{o:HO}(sm:Same H H1)(h:H1 p=none):Same H (upd H1 p o):=fun b u q=>by
 have q':=sm b u q
 rw [zj (zh q' h)];exact q'
theorem zcr {H H1:Hp}{p:Addr}{o:HO}(sm:Same H H1)(h:H p=none):Same H (upd H1 p o):=fun b u q=>by
 rw [zj (zh q h)];exact sm b u q
instance decSign (c:Nat):Decidable (Sign c):=inferInstanceAs (Decidable (32≤c∧c≤126∧c≠37))
def SGs:Str:=Str.ofString " !\"#$&'()*+,-./0123456789:;<=>?@ABCDEFGHIJKLMNOPQRSTUVWXYZ[\\]^_`" ++Str.ofString "abcdefghijklmnopqrstuvwxyz{|}~"
def zk3:Sp:=fun vs H Q _=>∃c:Int,vs=[.int c]∧∀(r:Addr) (H':Hp),Same H H'→RowV H' r→H r=none→Q (.ref r) H'
def zcF:Sp:=fun vs H Q _=>∃(row:Addr) (many:Int),vs=[.ref row,.int many]∧RowV H row∧0 < many∧many < 10 ^ 100∧∀(r:Int) (H':Hp),0≤r→r < many→Frm [row] H H'→RowV H' row→Q (.int r) H'
def zni:Sp:=fun vs H Q _=>∃(row:Addr),vs=[.ref row]∧RowV H row∧∀(x:Str) (H':Hp),zgX x→Frm [row] H H'→RowV H' row→Q (.str x) H'
def many (n:Nat):Nat:=(3 ^ (n+1) - 1) / 2
def zmS (n:Nat):Sp:=fun vs H Q _=>∃(row:Addr) (deep:Nat),vs=[.ref row,.int (deep:Int)]∧RowV H row∧deep < n∧deep≤3∧
 ∀(t:Th) (v:V) (H':Hp),Wf t→dep t≤deep→nodes t≤many deep→Frm [row] H H'→RowV H' row→Rep H' t v→Q v H'
section
variable {P:Program}{w:World}{K:PySem.W.Frag}{mg:Str→Option Value}{base:Heap}
theorem zk7 (D:Dfn K mg "_law_row" zdj ["cell"]):Fn P w K mg base "_law_row" 1 ["cell"] zk3:=by
 refine D.ok (k:=0) zdU (fun vs H Q E h=>?_) (fun f cdv A outer s H vs Q E hr h=>?_)
 ·obtain ⟨c,rfl,_⟩:=h;rfl
 obtain ⟨c,rfl,q⟩:=h
 refine ⟨_,(zc (zD (zx zaO (zA zb5 (pv 0) zd) zd (zt _))
 (zf (zl (zL (za (zA zea (pv 0) zd) (za zd zb)))))
 zr)
 (zc (zq (i:=1) zdU.nd rfl (Or.inl rfl) (zA zb5 (pv 0) zd))
 (zf (zl (zL (za (zA zb5 (zA zT (zA zc8 (zA zb5 (zA zc8 (pv 1) (pv 1)) zd) (zA zT (pv 1) zd)) zd) zd) (za zd zb))))))),?_⟩
 refine ⟨_,rfl,_,_,rfl,rfl,(show (0:Int) < 2 by decide),rfl,_,rfl,?_⟩
 refine ifB (fun cc=>?_) (fun cc=>?_)
 ·refine ⟨_,rfl,_,_,rfl,rfl,⟨by decide,by decide+kernel⟩,szl (show 2≤1000 by decide),fun p hp=>?_⟩
  exact q p _ (zo (Same.refl H) hp) ⟨_,_,ze,.inl rfl⟩ hp
 ·have b0:0≤c % 999999937:=Int.emod_nonneg _ (by decide)
  have b1:c % 999999937 < 999999937:=Int.emod_lt_of_pos _ (by decide)
  refine ⟨_,rfl,_,_,rfl,rfl,(show (0:Int) < 999999937 by decide),?_⟩
  generalize hd:c % 999999937=d at b0 b1
  show zc3 1 (V.int (c % 999999937)) _ _ _
  rw [hd]
  have g0:0≤d * d % 999999937:=Int.emod_nonneg _ (by decide)
  have g1:d * d % 999999937 < 999999937:=Int.emod_lt_of_pos _ (by decide)
  refine ⟨_,rfl,_,rfl,_,_,rfl,rfl,.inl ⟨by omega,by omega⟩,_,_,rfl,rfl,(show (0:Int) < 999999937 by decide),_,rfl,_,_,rfl,rfl,_,_,rfl,rfl,.inl ⟨by omega,by omega⟩,_,_,rfl,rfl,_,_,rfl,rfl,(show (0:Int) < 999999937 by decide),szl (show 2≤1000 by decide),fun p hp=>?_⟩
  exact q p _ (zo (Same.refl H) hp) ⟨_,_,ze,.inr ⟨rfl,Int.emod_nonneg _ (by decide),Int.emod_lt_of_pos _ (by decide)⟩⟩ hp
theorem zjW (D:Dfn K mg "_law_take" zcI ["row","many"]):Fn P w K mg base "_law_take" 1 ["row","many"] zcF:=by
 refine D.ok (k:=0) zdv (fun vs H Q E h=>?_) (fun f cdv A outer s H vs Q E hr h=>?_)
 ·obtain ⟨row,many,rfl,_⟩:=h;rfl
 obtain ⟨row,many,rfl,⟨a,m,e,hm⟩,h0,h1,q⟩:=h
 refine ⟨_,(zc (zD (zx zaO (zz zI (pv 0) zd (fun _ _=>rfl)) zd (zt _))
 (zc (zq (i:=2) zdv.nd rfl (Or.inl rfl) (zA zb5 (zz zI (pv 0) zd (fun _ _=>rfl)) (pv 1)))
 (zc (zfc (zA zea (zz zI (pv 0) zd (fun _ _=>rfl)) (pv 1)) (zi1 (pv 0) zd set_list))
 (zf (zl (pv 2)))))
 zr)
 (zc (zfc (zA zb5 (zA zc8 (zA zT (zz zI (pv 0) zd (fun _ _=>rfl)) zd) (zA zT (zz zI (pv 0) zd (fun _ _=>rfl)) zd)) zd) (zi1 (pv 0) zd set_list))
 (zf (zl (zA zb5 (zA zT (zA zc8 (zz zI (pv 0) zd (fun _ _=>rfl)) (zA zcQ zd zd)) zd) (pv 1)))))),?_⟩
 refine ⟨_,rfl,row,_,_,_,rfl,rfl,SqL.of e,rfl,rfl,_,rfl,?_⟩
 rcases hm with rfl | ⟨rfl,a0,a1⟩
 ·refine ifT (by decide) ?_
  refine ⟨_,rfl,row,_,_,_,rfl,rfl,SqL.of e,rfl,_,rfl,_,_,rfl,rfl,h0,?_⟩
  refine ⟨_,rfl,row,_,_,_,rfl,rfl,SqL.of e,rfl,_,rfl,_,_,rfl,rfl,⟨h0,h1⟩,_,rfl,row,_,_,_,rfl,rfl,e,rfl,?_⟩
  exact ⟨_,rfl,q _ _ (Int.emod_nonneg _ (by omega)) (Int.emod_lt_of_pos _ h0) (Frm.upd (by simp)) ⟨_,_,ze,.inl rfl⟩⟩
 ·refine ifF (by decide) ?_
  refine ⟨_,rfl,row,_,_,_,rfl,rfl,SqL.of e,rfl,_,_,rfl,rfl,_,rfl,row,_,_,_,rfl,rfl,SqL.of e,rfl,_,_,rfl,rfl,_,_,rfl,rfl,.inl ⟨by omega,by omega⟩,_,_,rfl,rfl,(show (0:Int) < 999999937 by decide),_,rfl,row,_,_,_,rfl,rfl,e,rfl,?_⟩
  have z0:0≤(a+32452843) * (a+86028121) % 999999937:=Int.emod_nonneg _ (by decide)
  have z1:(a+32452843) * (a+86028121) % 999999937 < 999999937:=Int.emod_lt_of_pos _ (by decide)
  refine ⟨_,rfl,row,[V.int ((a+32452843) * (a+86028121) % 999999937),V.int 1],_,_,rfl,rfl,SqL.of ze,rfl,_,_,rfl,rfl,⟨by decide,by decide,by decide⟩,_,_,rfl,rfl,.inl ⟨by omega,by omega⟩,_,_,rfl,rfl,_,rfl,_,_,rfl,rfl,h0,?_⟩
  exact q _ _ (Int.emod_nonneg _ (by omega)) (Int.emod_lt_of_pos _ h0) (Frm.upd (by simp)) ⟨_,_,ze,.inr ⟨rfl,z0,z1⟩⟩
theorem _root_.Pv.Frm.none_of {row p:Addr}{H H':Hp}(f:Frm [row] H H')(h:H' p=none)(n:p≠row):H p=none:=by
 cases e:H p with
 | none=>rfl
 | some o=>rw [f p o (not1 n) e] at h;cases h
theorem RowV.upd {H:Hp}{row p:Addr}{o:HO}(r:RowV H row)(n:p≠row):RowV (L2.upd H p o) row:=by
 obtain ⟨a,m,e,k⟩:=r
 exact ⟨a,m,by rw [zj (Ne.symm n)];exact e,k⟩
end
end Pv
namespace Pv
open PySem L2
abbrev zjG:Stmt:=top 9
abbrev zgp:Stmt:=top 10
abbrev zcK:Stmt:=top 11
theorem ze7:zm ["thing","folded","code"] ["thing"] (zg zjG):=⟨rfl,rfl,rfl,by decide+kernel,rfl,by decide+kernel,by decide+kernel⟩
theorem zc1:zm ["thing","raised","sevens","row","part"] ["thing"] (zg zgp):=⟨rfl,rfl,rfl,by decide+kernel,rfl,by decide+kernel,by decide+kernel⟩
theorem zbt:zm ["signs","number","sign"] ["signs"] (zg zcK):=⟨rfl,rfl,rfl,by decide+kernel,rfl,by decide+kernel,by decide+kernel⟩
def zhk:Sp:=fun vs H Q _=>∃x:Str,vs=[.str x]∧Q (.int (numOf x.cps.toList)) H
def zgW (n:Nat):Sp:=fun vs H Q _=>∃(t:Th) (v:V),vs=[v]∧Rep H t v∧Wf t∧dep t < n∧nodes t≤100∧∀(r:Addr) (H':Hp),Same H H'→H' r=some (.lst ((zaE t).map V.int))→Q (.ref r) H'
def zcf:Sp:=fun vs H Q _=>∃(t:Th) (v:V),vs=[v]∧Rep H t v∧Wf t∧dep t < 10∧nodes t≤100∧∀(H':Hp),Same H H'→Q (.int (zk t)) H'
section
variable {P:Program}{w:World}{K:PySem.W.Frag}{mg:Str→Option Value}{base:Heap}
theorem zeQ (D:Dfn K mg "number_of" zcK ["signs"]) (m_ord:mg "ord" =none):Fn P w K mg base "number_of" 1 ["signs"] zhk:=by
 refine D.ok (k:=0) zbt (fun vs H Q E h=>?_) (fun f cdv A outer s H vs Q E hr h=>?_)
 ·obtain ⟨x,rfl,_⟩:=h;rfl
 obtain ⟨x,rfl,q⟩:=h
 refine ⟨_,(zc (zq (i:=1) zbt.nd rfl (Or.inl rfl) zd)
 (zc (zbm PassesOwn.never rfl (ziE (pv 0)) (zX (i:=2) zbt.nd rfl (Or.inl rfl))
 (zf (zq (i:=1) zbt.nd rfl (Or.inl rfl) (zA zT (zA zc8 (pv 1) zd) (zF (zfo) (by rfl) m_ord (by rfl) (za (pv 2) zb))))))
 (zf (zl (pv 1))))),?_⟩
 refine ⟨_,rfl,x,rfl,?_⟩
 refine zhc (z:=x) (fun i σ H'=>H'=H∧∃kk,σ=[some (.str x),some (.int (numOf (x.cps.toList.take i))),kk]) ⟨rfl,_,rfl⟩ ?_ ?_
 ·rintro i c σ H' hc ⟨rfl,kk,rfl⟩
  refine ⟨_,rfl,_,_,rfl,rfl,.inr ⟨by decide,by decide⟩,_,rfl,_,rfl,rfl,_,_,rfl,rfl,rfl,some (.str ⟨#[c]⟩),?_⟩
  have e:x.cps.toList.take (i+1)=x.cps.toList.take i++ [c]:=by
   rw [List.take_add_one,Array.getElem?_toList,hc];rfl
  rw [e,zf8]
  rfl
 ·rintro σ H' ⟨rfl,kk,rfl⟩
  refine ⟨_,rfl,?_⟩
  have e:x.cps.toList.take x.cps.size=x.cps.toList:=List.take_of_length_le (by simp)
  rw [e]
  exact q
theorem zfj (D:Dfn K mg "codes" zgp ["thing"]) (F_number_of:Fn P w K mg base "number_of" 1 ["signs"] zhk) (m_isinstance:mg "isinstance" =none) (m_int:mg "int" =none) (m_str:mg "str" =none) (m_range:mg "range" =none) (m_len:mg "len" =none):
  ∀n:Nat,Fn P w K mg base "codes" (n+2) ["thing"] (zgW n)
 | 0=>D.never fun vs H Q E h=>by
   obtain ⟨t,v,_,_,_,h1,_⟩:=h
   omega
 | n+1=>by
  have F_codes:=zfj D F_number_of m_isinstance m_int m_str m_range m_len n
  refine D.ok (k:=n+2) zc1 (fun vs H Q E h=>?_) (fun f cdv A outer s H vs Q E hr h=>?_)
  ·obtain ⟨t,v,rfl,_⟩:=h;rfl
  obtain ⟨t,v,rfl,hrep,hwf,hdep,hnod,q⟩:=h
  have hlen:=zdi t hwf
  refine ⟨_,(zc (zD (zx zbl (pv 0) zJ (zt _))
 (zf (zl (zL (za zd zb))))
 zr)
 (zc (zD (zQ (zF (zU) (by rfl) m_isinstance (by rfl) (za (pv 0) (za (zaz (v:=.ty "int") (by rfl) m_int (by rfl) rfl) zb))))
 (zc (zq (i:=1) zc1.nd rfl (Or.inl rfl) (zA zT (pv 0) (zA zcQ zd zd)))
 (zf (zl (zL (za zd (za (zA zea (pv 1) (zA zcQ zd zd)) (za (zA zb5 (pv 1) (zA zcQ zd zd)) zb)))))))
 zr)
 (zc (zD (zQ (zF (zU) (by rfl) m_isinstance (by rfl) (za (pv 0) (za (zaz (v:=.ty "str") (by rfl) m_str (by rfl) rfl) zb))))
 (zc (zi0 (i:=2) (z6.one (y:= "thing") (j:=0) (c:=s.heap.objs.size+1) (by rfl) (by rfl) (by decide+kernel) (by decide+kernel) (by rfl) (by decide+kernel) (by rfl) (by decide+kernel) (by rfl) (by first | exact Or.inl rfl | exact Or.inr rfl) (by first | exact Or.inl rfl | exact Or.inr rfl)) rfl (zhy rfl m_range (za zd (za (zF (zaW.or z8 zba) (by rfl) m_len (by rfl) (za (pv 0) zb)) (za zd zb)))) (fun _ _ _=>zgH) (fun _ _ _=>(zbP zla (pv 1) (zbY (pv 0)) (zbY (zA zT (pv 0) zd)))) zc1.nd rfl (Or.inl rfl) (by rfl))
 (zf (zl (zA zdY (zL (za zd (za (zF (zaW.or z8 zba) (by rfl) m_len (by rfl) (za (pv 0) zb)) zb))) (zjj (z6.zero (by rfl) (by decide+kernel) (by decide+kernel) (by decide+kernel) (by rfl)) rfl (zcz (pv 2)) (fun _ _ _=>zgH) (fun _ _ _=>(zw F_number_of hr (by omega) (by rfl) (za (pv 0) zb))))))))
 zr)
 (zc (zq (i:=3) zc1.nd rfl (Or.inl rfl) (zL (za zd (za (zF (zaW.or z8 zba) (by rfl) m_len (by rfl) (za (pv 0) zb)) zb))))
 (zc (zbm PassesOwn.never rfl (zjD (pv 0)) (zX (i:=4) zc1.nd rfl (Or.inl rfl))
 (zf (zao (zdp PySem.F.plainAttrs_list PySem.F.slot_list_extend PySem.F.type_list_extend zh5 (pv 3) (za (zw F_codes hr (by omega) (by rfl) (za (pv 4) zb)) zb)))))
 (zf (zl (pv 3)))))))),?_⟩
  refine ⟨_,rfl,rfl,_,rfl,?_⟩
  cases hrep with
  | non=>
   refine ifT (by decide) ?_
   refine ⟨szl (show 1≤1000 by decide),fun p hp=>?_⟩
   exact q p _ (Frm.new hp).same ze
  | int i=>
   refine ifF (by rfl) ?_
   refine ⟨_,rfl,_,_,_,_,rfl,.int i,rfl,_,rfl,?_⟩
   refine ifT rfl ?_
   refine ⟨_,rfl,_,_,rfl,rfl,⟨by decide,by decide,by decide⟩,_,_,rfl,rfl,?_⟩
   refine ⟨_,rfl,_,_,rfl,rfl,⟨by decide,by decide,by decide⟩,_,_,rfl,rfl,⟨by decide+kernel,by decide+kernel⟩,_,rfl,_,_,rfl,rfl,⟨by decide,by decide,by decide⟩,_,_,rfl,rfl,(show (0:Int) < 10 ^ (15:Int).toNat by decide+kernel),szl (show 3≤1000 by decide),fun p hp=>?_⟩
   exact q p _ (Frm.new hp).same ze
  | str x=>
   have hx:x.length≤60:=hwf.1
   refine ifF (by rfl) ?_
   refine ⟨_,rfl,_,_,_,_,rfl,.str x,rfl,_,rfl,?_⟩
   refine ifF rfl ?_
   refine ⟨_,rfl,_,_,_,_,rfl,.str x,rfl,_,rfl,?_⟩
   refine ifT rfl ?_
   refine ⟨_,rfl,.inr ⟨x,rfl,szl (by omega),?_⟩⟩
   refine ⟨_,_,rfl,by omega,by omega,by decide,by decide,fun p hp=>?_⟩
   rw [zhO]
   refine zgP (J:=Itrs 0 7 (za9 x)) (n:=za9 x) (fun i acc H'=>acc=(List.range i).map (fun k=>V.str (ze8 x k))∧H'=upd H p (.lst acc)) ⟨rfl,rfl⟩ (by exact fun i acc H' hi _=>hi) (by exact fun acc H' _=>Nat.le_refl _) ?_ ?_
   ·rintro i acc H' y H'' hi ⟨ha,rfl⟩ ⟨e1,e2⟩
    subst e1 e2
    refine tt1 ?_
    refine ⟨_,rfl,_,rfl,_,rfl,_,rfl,_,_,rfl,rfl,_,rfl,x,rfl,szl (by omega),?_⟩
    have hal:acc.length=i:=by rw [ha,List.length_map,List.length_range]
    refine ⟨ze,Nat.lt_of_lt_of_le (show acc.length < 1000 by unfold za9 at hi;omega) (szl (Nat.le_refl _)),nxt hi ⟨?_,zgT⟩⟩
    rw [List.range_succ,List.map_append,ha,zhB hi]
    rfl
   ·rintro acc H' ⟨ha,rfl⟩
    refine ⟨_,rfl,.inr ⟨x,rfl,szl (by omega),szl (show 2≤1000 by decide),fun p2 hp2=>?_⟩⟩
    have np:p≠p2:=fun z=>by rw [←z,ze] at hp2;cases hp2
    have ep:upd (upd H p (.lst acc)) p2 (.lst [.int 3,.int (x.length:Nat)]) p=some (.lst acc):=by rw [zj np];exact ze
    have hal:acc.length=za9 x:=by rw [ha,List.length_map,List.length_range]
    refine ⟨_,rfl,p,rfl,⟨_,SqL.of ep⟩,fun p3 hp3=>?_⟩
    have np3:p≠p3:=(zh ep hp3)
    have np23:p2≠p3:=(zh ze hp3)
    refine zgP (n:=za9 x) (fun i acc' H'=>acc'=(List.range i).map (fun k=>V.int (numOf (chunk x k)))∧H'=upd (upd (upd H p (.lst acc)) p2 (.lst [.int 3,.int (x.length:Nat)])) p3 (.lst acc')) ⟨rfl,rfl⟩ ?_ ?_ ?_ ?_
    ·rintro i acc' H' hi ⟨_,rfl⟩
     exact ⟨acc,acc[i],SqL.of (by rw [zj np3];exact ep),by rw [List.getElem?_eq_getElem]⟩
    ·rintro acc' H' ⟨_,rfl⟩
     exact ⟨acc,SqL.of (by rw [zj np3];exact ep),by omega⟩
    ·rintro i acc' H' y H'' hi ⟨ha',rfl⟩ ⟨e1,e2⟩
     subst e1
     have ey:=e2 acc (SqL.of (by rw [zj np3];exact ep))
     have ey2:y=V.str (ze8 x i):=by
      rw [ha,List.getElem?_map,List.getElem?_range hi] at ey
      exact (Option.some.inj ey).symm
     subst ey2
     refine tt1 ?_
     refine ⟨_,rfl,_,rfl,ze,?_,nxt hi ⟨?_,zgT⟩⟩
     ·have:acc'.length=i:=by rw [ha',List.length_map,List.length_range]
      exact Nat.lt_of_lt_of_le (show acc'.length < 1000 by unfold za9 at hi;omega) (szl (Nat.le_refl _))
     ·rw [List.range_succ,List.map_append,ha']
      rfl
    ·rintro acc' H' ⟨ha',rfl⟩
     have hal':acc'.length=za9 x:=by rw [ha',List.length_map,List.length_range]
     refine ⟨p2,p3,[.int 3,.int (x.length:Nat)],acc',rfl,rfl,by rw [zj np23];exact ze,ze,szl (show 2+acc'.length≤1000 by unfold za9 at hal';omega),fun r hr'=>?_⟩
     refine q r _ (fun b o hb=>?_) ?_
     ·have n1:=zh hb hp
      have e1:upd H p (.lst acc) b=some o:=by rw [zj n1];exact hb
      have n2:=zh e1 hp2
      have e2:upd (upd H p (.lst acc)) p2 (.lst [.int 3,.int (x.length:Nat)]) b=some o:=by rw [zj n2];exact e1
      have n3:=zh e2 hp3
      have e3:upd (upd (upd H p (.lst acc)) p2 (.lst [.int 3,.int (x.length:Nat)])) p3 (.lst acc') b=some o:=by rw [zj n3];exact e2
      rw [zj (zh e3 hr')]
      exact e3
     ·rw [ze,ha']
      show some (HO.lst ([V.int 3,V.int (x.length:Nat)]++_))=some (HO.lst (([3,(x.length:Int)]++zc6 x).map V.int))
      rw [List.map_append]
      unfold zc6
      rw [List.map_map]
      rfl
  | @tup a xs ts e hl hrs=>
   have hw:ts.length≤40:=hwf.1
   refine ifF (by rfl) ?_
   refine ⟨_,rfl,_,_,_,_,rfl,.tup e,rfl,_,rfl,?_⟩
   refine ifF rfl ?_
   refine ⟨_,rfl,_,_,_,_,rfl,.tup e,rfl,_,rfl,?_⟩
   refine ifF rfl ?_
   refine ⟨_,rfl,.inl ⟨a,_,rfl,.inr (SqT.of e),szl (show 2≤1000 by decide),fun rw hrw=>?_⟩⟩
   have nra:a≠rw:=zh e hrw
   have keepT:∀{H':Hp},Same H H'→Tups H H':=fun z=>Same.tups z
   refine ⟨_,rfl,a,rfl,⟨_,SqT.of (by rw [zj nra];exact e)⟩,?_⟩
   refine zgI (xs:=xs) (fun i σ H'=>∃kk,σ=[some (.ref a),none,none,some (.ref rw),kk]∧Same H H'∧H' rw=some (.lst (([4,(ts.length:Int)]++zaq (ts.take i)).map V.int))) ⟨_,rfl,(Frm.new hrw).same,?_⟩ ?_ ?_ ?_
   ·rw [ze,hl]
    rfl
   ·rintro i σ H' hi ⟨kk,rfl,sm,er⟩
    exact SqT.of (sm _ _ e)
   ·rintro i x σ H' hx ⟨kk,rfl,sm,er⟩
    have hil:i < ts.length:=by rw [←hl];exact (List.getElem?_eq_some_iff.mp hx).1
    have ht:ts[i]? =some ts[i]:=List.getElem?_eq_getElem hil
    have hcl:=zcJ ts hwf.2
    have hcl':=zcc ts i
    have hcn:1+zbi ts≤100:=hnod
    have hsub:nodes ts[i]≤zbi ts:=zet ht
    refine ⟨_,rfl,.inl ⟨rfl,_,SqL.of er⟩,_,rfl,ts[i],x,rfl,(hrs i x _ hx ht).keep (keepT sm),hwf.2.get ht,?_,by omega,fun r H2 sm2 er2=>?_⟩
    ·have:=zbQ ht
     have:depL ts+1 < n+1:=hdep
     omega
    have hc1:=zdi ts[i] (hwf.2.get ht)
    refine ⟨rw,r,_,_,rfl,rfl,sm2 _ _ er,er2,szL ?_,?_⟩
    ·simp only [List.length_map,List.length_append,List.length_cons,List.length_nil]
     omega
    ·refine ⟨_,rfl,fun b o hb=>?_,?_⟩
     ·rw [zj (zh hb hrw)]
      exact sm2 _ _ (sm _ _ hb)
     ·rw [ze,zfp ht]
      simp only [List.map_append,List.append_assoc]
   ·rintro σ H' ⟨kk,rfl,sm,er⟩
    refine ⟨_,rfl,q rw H' sm ?_⟩
    rw [er,hl,List.take_length]
    rfl
theorem zky (D:Dfn K mg "seal" zjG ["thing"]) (F_codes:Fn P w K mg base "codes" 12 ["thing"] (zgW 10)):Fn P w K mg base "seal" 13 ["thing"] zcf:=by
 refine D.ok (k:=12) ze7 (fun vs H Q E h=>?_) (fun f cdv A outer s H vs Q E hr h=>?_)
 ·obtain ⟨t,v,rfl,_⟩:=h;rfl
 obtain ⟨t,v,rfl,hrep,hwf,hdep,hnod,q⟩:=h
 refine ⟨_,(zc (zq (i:=1) ze7.nd rfl (Or.inl rfl) zd)
 (zc (zbm PassesOwn.never rfl (zcz (zw F_codes hr (by omega) (by rfl) (za (pv 0) zb))) (zX (i:=2) ze7.nd rfl (Or.inl rfl))
 (zf (zq (i:=1) ze7.nd rfl (Or.inl rfl) (zA zb5 (zA zT (zA zc8 (pv 1) zd) (pv 2)) (zA zbK (zA zcQ zd zd) zd)))))
 (zf (zl (zA zT (pv 1) zd))))),?_⟩
 refine ⟨_,rfl,t,v,rfl,hrep,hwf,hdep,hnod,fun r H1 sm er=>?_⟩
 refine ⟨r,rfl,⟨_,SqL.of er⟩,?_⟩
 refine zcv (xs:=(zaE t).map V.int) (fun i σ H'=>H'=H1∧∃kk,σ=[some v,some (.int (zcU ((zaE t).take i))),kk]) ⟨rfl,_,rfl⟩ ?_ ?_ ?_
 ·rintro i σ H' _ ⟨rfl,_⟩
  exact SqL.of er
 ·rintro i x σ H' hx ⟨rfl,kk,rfl⟩
  rw [List.getElem?_map] at hx
  obtain ⟨c,hc,rfl⟩:=Option.map_eq_some_iff.mp hx
  have rg:=zdx ((zaE t).take i)
  have e61:(2:Int) ^ (61:Int).toNat - 1=2305843009213693951:=by decide+kernel
  refine ⟨_,rfl,_,_,rfl,rfl,.inl ⟨by omega,by omega⟩,_,rfl,_,_,rfl,rfl,_,_,rfl,rfl,⟨by decide,by decide,by decide⟩,_,_,rfl,rfl,_,_,rfl,rfl,(show (0:Int) < 2 ^ (61:Int).toNat - 1 by decide+kernel),rfl,some (.int c),?_⟩
  rw [zgw hc,←e61]
  rfl
 ·rintro σ H' ⟨rfl,kk,rfl⟩
  refine ⟨_,rfl,_,_,rfl,rfl,?_⟩
  rw [List.length_map,List.take_length]
  exact q _ sm
end
end Pv
namespace Pv
open PySem L2
abbrev zd0:Stmt:=top 22
abbrev zgr:Stmt:=top 23
abbrev zaJ:Stmt:=top 24
theorem zhF:zm ["thing"] ["thing"] (zg zd0):=⟨rfl,rfl,rfl,by decide+kernel,rfl,by decide+kernel,by decide+kernel⟩
theorem zgZ:zm ["one","other","kind"] ["one","other"] (zg zgr):=⟨rfl,rfl,rfl,by decide+kernel,rfl,by decide+kernel,by decide+kernel⟩
theorem za0:zm ["one","other","mine","its"] ["one","other"] (zg zaJ):=⟨rfl,rfl,rfl,by decide+kernel,rfl,by decide+kernel,by decide+kernel⟩
def ziA:Sp:=fun vs H Q _=>∃(t:Th) (v:V),vs=[v]∧Rep H t v∧Q (.int (zaG t)) H
def zbc (n:Nat):Sp:=fun vs H Q _=>∃(t u:Th) (v w:V),vs=[v,w]∧Rep H t v∧Rep H u w∧dep t < n∧dep t≤40∧∀H':Hp,Same H H'→Q (.bl (zu t u)) H'
def zir (n:Nat):Sp:=fun vs H Q _=>∃(ts us:List Th) (v w:V),vs=[v,w]∧Rep H (.tup ts) v∧Rep H (.tup us) w∧depL ts < n∧depL ts≤39∧∀H':Hp,Same H H'→Q (.bl (za1 ts us)) H'
section
variable {P:Program}{w:World}{K:PySem.W.Frag}{mg:Str→Option Value}{base:Heap}
theorem zj9 (D:Dfn K mg "kind_of" zd0 ["thing"]) (m_isinstance:mg "isinstance" =none) (m_int:mg "int" =none) (m_str:mg "str" =none):Fn P w K mg base "kind_of" 1 ["thing"] ziA:=by
 refine D.ok (k:=0) zhF (fun vs H Q E h=>?_) (fun f cdv A outer s H vs Q E hr h=>?_)
 ·obtain ⟨t,v,rfl,_⟩:=h;rfl
 obtain ⟨t,v,rfl,rt,q⟩:=h
 refine ⟨_,(zc (zD (zx zbl (pv 0) zJ (zt _))
 (zf (zl zd))
 zr)
 (zc (zD (zQ (zF (zU) (by rfl) m_isinstance (by rfl) (za (pv 0) (za (zaz (v:=.ty "int") (by rfl) m_int (by rfl) rfl) zb))))
 (zf (zl zd))
 zr)
 (zc (zD (zQ (zF (zU) (by rfl) m_isinstance (by rfl) (za (pv 0) (za (zaz (v:=.ty "str") (by rfl) m_str (by rfl) rfl) zb))))
 (zf (zl zd))
 zr)
 (zf (zl zd))))),?_⟩
 refine ⟨_,rfl,rfl,_,rfl,?_⟩
 cases rt with
 | non=>exact ifT (by decide) q
 | int i=>
  refine ifF (by rfl) ?_
  refine ⟨_,rfl,_,_,_,_,rfl,.int i,rfl,_,rfl,?_⟩
  exact ifT rfl q
 | str x=>
  refine ifF (by rfl) ?_
  refine ⟨_,rfl,_,_,_,_,rfl,.str x,rfl,_,rfl,?_⟩
  refine ifF rfl ?_
  refine ⟨_,rfl,_,_,_,_,rfl,.str x,rfl,_,rfl,?_⟩
  exact ifT rfl q
 | tup e l h=>
  refine ifF (by rfl) ?_
  refine ⟨_,rfl,_,_,_,_,rfl,.tup e,rfl,_,rfl,?_⟩
  refine ifF rfl ?_
  refine ⟨_,rfl,_,_,_,_,rfl,.tup e,rfl,_,rfl,?_⟩
  exact ifF rfl q
theorem zh3 {n:Nat}(D:Dfn K mg "is_tuple_ahead" zaJ ["one","other"]) (F_ahead:Fn P w K mg base "ahead" (2 * n+2) ["one","other"] (zbc n)) (m_zip:mg "zip" =none) (m_len:mg "len" =none):Fn P w K mg base "is_tuple_ahead" (2 * n+3) ["one","other"] (zir n):=by
 refine D.ok (k:=2 * n+2) za0 (fun vs H Q E h=>?_) (fun f cdv A outer s H vs Q E hr h=>?_)
 ·obtain ⟨ts,us,v,w,rfl,_⟩:=h;rfl
 obtain ⟨ts,us,v,w,rfl,r1,r2,hd,hd40,q⟩:=h
 cases r1 with
 | @tup a xs _ e1 l1 h1=>
 cases r2 with
 | @tup b ys _ e2 l2 h2=>
 refine ⟨_,(zc (zbm PassesOwn.never rfl (zlA (by rfl) m_zip (za (pv 0) (za (pv 1) zb))) (zjs rfl (zaR (zX (i:=2) za0.nd rfl (Or.inl rfl)) (zaR (zX (i:=3) za0.nd rfl (Or.inl rfl)) zeS)))
 (zf (zD (zx (zb6 hr) (pv 2) (pv 3) (zt _))
 (zf (zl (zw F_ahead hr (by omega) (by rfl) (za (pv 2) (za (pv 3) zb)))))
 zr)))
 (zf (zl (zS zek (zF (z8) (by rfl) m_len (by rfl) (za (pv 0) zb)) (zF (z8) (by rfl) m_len (by rfl) (za (pv 1) zb)) (zt _))))),?_⟩
 refine ⟨_,rfl,_,rfl,a,b,xs,ys,rfl,SqT.of e1,SqT.of e2,?_⟩
 refine zkw (K:=K) (p:=a) (q:=b) (xs:=xs) (us:=ys) (fun i σ H'=>∃k2 k3,σ=[some (.ref a),some (.ref b),k2,k3]∧Same H H'∧za1 ts us=za1 (ts.drop i) (us.drop i)) ⟨_,_,rfl,Same.refl _,rfl⟩ ?_ ?_ ?_
 ·rintro i σ H1 ⟨k2,k3,rfl,sm,_⟩
  exact ⟨SqT.of (sm _ _ e1),SqT.of (sm _ _ e2)⟩
 ·rintro i x u T σ H1 hx hu hT ⟨k2,k3,rfl,sm,ea⟩
  have hi:i < ts.length:=by rw [←l1];exact (List.getElem?_eq_some_iff.mp hx).1
  have hj:i < us.length:=by rw [←l2];exact (List.getElem?_eq_some_iff.mp hu).1
  have ht:ts[i]? =some ts[i]:=List.getElem?_eq_getElem hi
  have hv:us[i]? =some us[i]:=List.getElem?_eq_getElem hj
  have tk:Tups H (upd H1 T (.tup [x,u])):=(Same.tups sm).trans (Tups.new hT)
  have ra:=(h1 i x _ hx ht).keep tk
  have rb:=(h2 i u _ hu hv).keep tk
  have hdi:=zbQ ht
  refine ⟨T,_,rfl,SqT.of ze,rfl,_,_,rfl,_,_,rfl,rfl,?_⟩
  refine ⟨_,rfl,_,rfl,ts[i],us[i],ra,rb,by omega,_,rfl,?_⟩
  have sm':Same H (upd H1 T (.tup [x,u])):=fun c o hc=>by rw [zj (zh (sm _ _ hc) hT)];exact sm _ _ hc
  rw [zfl hi hj] at ea
  refine ifB (fun c=>?_) (fun c=>?_)
  ·have ne:¬eqT ts[i] us[i]=true:=by
    intro z
    rw [z] at c
    cases c
   rw [if_neg ne] at ea
   refine ⟨_,rfl,_,rfl,ts[i],us[i],_,_,rfl,ra,rb,by omega,by omega,fun H2 s2=>?_⟩
   rw [←ea]
   exact q H2 (sm'.trans s2)
  ·have eq:eqT ts[i] us[i]=true:=by
    cases z:eqT ts[i] us[i] with
    | true=>rfl
    | false=>rw [z] at c;cases c
   rw [if_pos eq] at ea
   exact ⟨_,_,rfl,sm',ea⟩
 ·rintro σ H1 ⟨k2,k3,rfl,sm,ea⟩
  refine ⟨_,rfl,a,_,rfl,.inr (SqT.of (sm _ _ e1)),_,rfl,b,_,rfl,.inr (SqT.of (sm _ _ e2)),_,_,rfl,rfl,?_⟩
  rw [l1,l2,zf1] at ea
  have ed:decide ((xs.length:Int) < (ys.length:Int))=za1 ts us:=by
   rw [ea,l1,l2]
   rw [Bool.eq_iff_iff]
   simp
  show Q (.bl (decide ((xs.length:Int) < (ys.length:Int)))) H1
  rw [ed]
  exact q H1 sm
theorem zfr (Da:Dfn K mg "ahead" zgr ["one","other"]) (Dt:Dfn K mg "is_tuple_ahead" zaJ ["one","other"]) (F_kind_of:Fn P w K mg base "kind_of" 1 ["thing"] ziA) (m_zip:mg "zip" =none) (m_len:mg "len" =none) (m_isinstance:mg "isinstance" =none) (m_tuple:mg "tuple" =none):
  ∀n:Nat,Fn P w K mg base "ahead" (2 * n+2) ["one","other"] (zbc n)
 | 0=>Da.never fun vs H Q E h=>by
   obtain ⟨t,u,v,w,_,_,_,h1,_⟩:=h
   omega
 | n+1=>by
  have F_is_tuple_ahead:=zh3 Dt (zfr Da Dt F_kind_of m_zip m_len m_isinstance m_tuple n) m_zip m_len
  refine Da.ok (k:=2 * n+3) zgZ (fun vs H Q E h=>?_) (fun f cdv A outer s H vs Q E hr h=>?_)
  ·obtain ⟨t,u,v,w,rfl,_⟩:=h;rfl
  obtain ⟨t,u,v,w,rfl,r1,r2,hd,hd40,q⟩:=h
  refine ⟨_,(zc (zq (i:=2) zgZ.nd rfl (Or.inl rfl) (zw F_kind_of hr (by omega) (by rfl) (za (pv 0) zb)))
 (zc (zD (zx zdA (pv 2) (zw F_kind_of hr (by omega) (by rfl) (za (pv 1) zb)) (zt _))
 (zf (zl (zS zek (pv 2) (zw F_kind_of hr (by omega) (by rfl) (za (pv 1) zb)) (zt _))))
 zr)
 (zc (zD (zx zbl (pv 0) zJ (zt _))
 (zf (zl zal))
 zr)
 (zc (zD (zQ (zF (zU) (by rfl) m_isinstance (by rfl) (za (pv 0) (za (zaz (v:=.ty "tuple") (by rfl) m_tuple (by rfl) rfl) zb))))
 (zf (zl (zw F_is_tuple_ahead hr (by omega) (by rfl) (za (pv 0) (za (pv 1) zb)))))
 zr)
 (zf (zl (zS (OpR.or zek zh0) (pv 0) (pv 1) (zt _)))))))),?_⟩
  refine ⟨_,rfl,t,v,rfl,r1,?_⟩
  refine ⟨_,rfl,_,rfl,u,w,rfl,r2,rfl,_,rfl,?_⟩
  rw [zan]
  refine ifB (fun c=>?_) (fun c=>?_)
  ·have ne:zaG t≠zaG u:=fun z=>by rw [decide_eq_true z] at c;cases c
   refine ⟨_,rfl,_,rfl,u,w,rfl,r2,_,_,rfl,rfl,?_⟩
   show Q (.bl (decide (zaG t < zaG u))) H
   rw [←zfz ne]
   exact q H (Same.refl _)
  ·have eq:zaG t=zaG u:=by
    by_cases z:zaG t=zaG u
    ·exact z
    ·rw [decide_eq_false z] at c;cases c
   refine ⟨_,rfl,rfl,_,rfl,?_⟩
   cases r1 with
   | non=>
    refine ifT (by decide) ?_
    cases r2 with
    | non=>exact q H (Same.refl _)
    | int i=>exact absurd eq (by show (0:Int)≠1;decide)
    | str x=>exact absurd eq (by show (0:Int)≠2;decide)
    | tup e l h=>exact absurd eq (by show (0:Int)≠3;decide)
   | int i=>
    refine ifF (by rfl) ?_
    refine ⟨_,rfl,_,_,_,_,rfl,.int i,rfl,_,rfl,?_⟩
    refine ifF rfl ?_
    cases r2 with
    | non=>exact absurd eq (by show (1:Int)≠0;decide)
    | int j=>exact ⟨_,rfl,_,rfl,.inl ⟨_,_,rfl,rfl,q H (Same.refl _)⟩⟩
    | str x=>exact absurd eq (by show (1:Int)≠2;decide)
    | tup e l h=>exact absurd eq (by show (1:Int)≠3;decide)
   | str x=>
    refine ifF (by rfl) ?_
    refine ⟨_,rfl,_,_,_,_,rfl,.str x,rfl,_,rfl,?_⟩
    refine ifF rfl ?_
    cases r2 with
    | non=>exact absurd eq (by show (2:Int)≠0;decide)
    | int j=>exact absurd eq (by show (2:Int)≠1;decide)
    | str y=>exact ⟨_,rfl,_,rfl,.inr ⟨_,_,rfl,rfl,q H (Same.refl _)⟩⟩
    | tup e l h=>exact absurd eq (by show (2:Int)≠3;decide)
   | @tup a xs ts e l h=>
    refine ifF (by rfl) ?_
    refine ⟨_,rfl,_,_,_,_,rfl,.tup e,rfl,_,rfl,?_⟩
    refine ifT rfl ?_
    cases r2 with
    | non=>exact absurd eq (by show (3:Int)≠0;decide)
    | int j=>exact absurd eq (by show (3:Int)≠1;decide)
    | str y=>exact absurd eq (by show (3:Int)≠2;decide)
    | @tup b ys us e' l' h'=>
     have hd':depL ts+1 < n+1:=hd
     have hd'':depL ts+1≤40:=hd40
     exact ⟨_,rfl,_,rfl,ts,us,_,_,rfl,.tup e l h,.tup e' l' h',by omega,by omega,fun H2 s2=>q H2 s2⟩
end
end Pv
namespace Pv
open PySem L2
abbrev zaK:Stmt:=inClass (top 26) 0
theorem zdl:zm ["self"] ["self"] (zg zaK):=⟨rfl,rfl,rfl,by decide+kernel,rfl,by decide+kernel,by decide+kernel⟩
abbrev zaj:Stmt:=inClass (top 26) 1
theorem zcj:zm ["self","number","thing"] ["self","number","thing"] (zg zaj):=⟨rfl,rfl,rfl,by decide+kernel,rfl,by decide+kernel,by decide+kernel⟩
abbrev zb8:Stmt:=inClass (top 26) 2
theorem zdz:zm ["self","thing","number"] ["self","thing"] (zg zb8):=⟨rfl,rfl,rfl,by decide+kernel,rfl,by decide+kernel,by decide+kernel⟩
abbrev zbe:Stmt:=inClass (top 26) 3
theorem zey:zm ["self","number"] ["self","number"] (zg zbe):=⟨rfl,rfl,rfl,by decide+kernel,rfl,by decide+kernel,by decide+kernel⟩
abbrev zaL:Stmt:=inClass (top 5) 0
theorem zdb:zm ["self","one","other"] ["self","one","other"] (zg zaL):=⟨rfl,rfl,rfl,by decide+kernel,rfl,by decide+kernel,by decide+kernel⟩
structure Good (t:Th):Prop where
 wf:Wf t
 dp:dep t≤8
 nd:nodes t≤80
structure Flds (fs:List (Str ×V))(d:Addr):Prop where
 la:fs.lookup ("laid" :Str)=some (V.ref d)
 n1:fs.lookup ("refuse_clash" :Str)=none
 n2:fs.lookup ("lay" :Str)=none
 n3:fs.lookup ("thing" :Str)=none
 n4:fs.lookup ("things" :Str)=none
 n5:fs.lookup ("paper" :Str)=none
theorem zkZ (d:Addr):Flds [("laid",.ref d)] d:=⟨rfl,rfl,rfl,rfl,rfl,rfl⟩
structure VOk (H:Hp)(C a d:Addr)(kvs:List (Key ×V)):Prop where
 ob:∃dx fs,H a=some (.ins C dx fs)∧Flds fs d
 di:H d=some (.dK kvs)
theorem VOk.keep {H H':Hp}{C a d:Addr}{kvs:List (Key ×V)}(v:VOk H C a d kvs)(s:Same H H'):VOk H' C a d kvs:=by
 obtain ⟨⟨dx,fs,e,f⟩,e2⟩:=v
 exact ⟨⟨dx,fs,s _ _ e,f⟩,s _ _ e2⟩
def zdc (H:Hp)(kvs:List (Key ×V)):Prop:=∀(n:Int) (v:V),valV kvs (.inl n)=some v→∃t,Rep H t v∧Good t∧zk t=n
theorem zdc.keep {H H':Hp}{kvs:List (Key ×V)}(l:zdc H kvs)(s:Tups H H'):zdc H' kvs:=fun n v e=>by
 obtain ⟨t,r,g⟩:=l n v e
 exact ⟨t,r.keep s,g⟩
def zgN (E:XK)(CC:Addr)(H:Hp)(t1 t2:Th)(v1 v2:V):Prop:=∀(H':Hp) (x:Addr),Same H H'→H' x=some (xdO x [("one",v1),("other",v2)])→E (.ref CC) (some x) H'
def zgS (C:Addr):Sp:=fun vs H Q _=>∃(a dx:Addr),vs=[.ref a]∧H a=some (.ins C dx [])∧∀d,H d=none→Q .non (upd (upd H d (.dK [])) a (.ins C dx [("laid",.ref d)]))
def zgF (CC:Addr):Sp:=fun vs H Q _=>∃(x:Addr) (v1 v2:V),vs=[.ref x,v1,v2]∧H x=some (exO x CC none true)∧
 ∀d,H d=none→d≠x→Q .non (upd (upd (upd H d (xdO d [("one",v1)])) x (exO x CC (some d) true)) d (xdO d [("one",v1),("other",v2)]))
def zfq (C CC:Addr):Sp:=fun vs H Q E=>∃(a d:Addr) (kvs:List (Key ×V)) (n:Int) (t:Th) (v:V),vs=[.ref a,.int n,v]∧VOk H C a d kvs∧zdc H kvs∧Rep H t v∧Good t∧zk t=n∧
 ((∀t1 v1,valV kvs (.inl n)=some v1→Rep H t1 v1→t1=t)→Q .non H)∧
 (∀t1 v1,valV kvs (.inl n)=some v1→Rep H t1 v1→Good t1→zk t1=zk t→t1≠t→zgN E CC H t1 t v1 v)
def zkF (C CC:Addr):Sp:=fun vs H Q E=>∃(a d:Addr) (kvs:List (Key ×V)) (t:Th) (v:V),vs=[.ref a,v]∧VOk H C a d kvs∧zdc H kvs∧kvs.length≤1000000∧Rep H t v∧Good t∧
 (∀H',Same H H'→(∀t1 v1,valV kvs (.inl (zk t))=some v1→Rep H t1 v1→t1=t)→Q (.int (zk t)) (upd H' d (.dK (putK kvs (.inl (zk t)) v))))∧
 (∀t1 v1 H',Same H H'→valV kvs (.inl (zk t))=some v1→Rep H' t1 v1→Good t1→zk t1=zk t→t1≠t→zgN E CC H' t1 t v1 v)
def zmC (C:Addr):Sp:=fun vs H Q _=>∃(a d:Addr) (kvs:List (Key ×V)) (n:Int) (v:V),vs=[.ref a,.int n]∧VOk H C a d kvs∧valV kvs (.inl n)=some v∧Q v H
def zfS (C CN:Addr):Sp:=fun vs H Q E=>∃(a d:Addr) (kvs:List (Key ×V)) (n:Int),vs=[.ref a,.int n]∧VOk H C a d kvs∧(∀v,valV kvs (.inl n)=some v→Q v H)∧(valV kvs (.inl n)=none→E (.ref CN) none H)
theorem DRep.laidOk {H:Hp}{cs:List (Int ×Th)}{kvs:List (Key ×V)}(r:DRep H cs kvs)(g:∀p∈cs,Good p.2∧zk p.2=p.1):zdc H kvs:=fun n v e=>by
 obtain ⟨t,e1,rv⟩:=r.back e
 obtain ⟨g1,g2⟩:=g _ (zeD e1)
 exact ⟨t,rv,g1,g2⟩
theorem zik (v1 v2:V):putF ("other" :Str) v2 [(("one" :Str),v1)]=[(("one" :Str),v1),(("other" :Str),v2)]:=by
 unfold putF
 rw [if_neg (by decide)]
 rfl
theorem Rep.uniq {H:Hp}{t u:Th}{v:V}(r:Rep H t v):Rep H u v→t=u:=by
 induction r generalizing u with
 | non=>intro q;cases q;rfl
 | int i=>intro q;cases q;rfl
 | str x=>intro q;cases q;rfl
 | @tup a xs ts e l h ih=>
  intro q
  cases q with
  | @tup _ ys us e' l' h'=>
   rw [e] at e'
   cases e'
   congr 1
   apply List.ext_getElem?
   intro i
   by_cases hi:i < ts.length
   ·have h1:ts[i]? =some ts[i]:=List.getElem?_eq_getElem hi
    have h2:us[i]? =some us[i]:=List.getElem?_eq_getElem (by omega)
    have h3:xs[i]? =some xs[i]:=List.getElem?_eq_getElem (by omega)
    rw [h1,h2,ih i _ _ h3 h1 (h' i _ _ h3 h2)]
   ·rw [List.getElem?_eq_none (by omega),List.getElem?_eq_none (by omega)]
section
variable {P:Program}{w:World}{K:PySem.W.Frag}{mg:Str→Option Value}{base:Heap}{C CC:Addr}{x:Str}
theorem ziU (D:XId K mg "Clash" CC "Clash.__init__" zaL ["self","one","other"]) (n1:zy K CC "one") (n2:zy K CC "other"):XI P w K mg base "Clash" CC 1 ["self","one","other"] (zgF CC):=by
 have c:=D.cl
 refine D.ok (k:=0) zdb (fun vs H Q E h=>?_) (fun f cdv A outer s H vs Q E hr h=>?_)
 ·obtain ⟨x,v1,v2,rfl,_⟩:=h;rfl
 obtain ⟨x,v1,v2,rfl,ex,q⟩:=h
 refine ⟨_,(zc (zli (pv 0) (pv 1) (by rfl))
 (zf (zln (pv 0) (pv 2) (by rfl)))),?_⟩
 refine ⟨_,rfl,_,rfl,x,CC,true,rfl,ex,c,n1,fun d hd hdx=>?_⟩
 refine ⟨_,rfl,_,rfl,x,CC,true,d,[("one",v1)],rfl,ze,by rw [zj hdx];exact ze,hdx,c,n2,(show (1:Nat) < 1000 by decide),?_⟩
 show Q .non (upd _ d (xdO d (putF "other" v2 [("one",v1)])))
 rw [zik]
 exact q d hd hdx
theorem zhL (D:Mdf K C "refuse_clash" "Vault.refuse_clash" zaj ["self","number","thing"]) (X_Clash:XI P w K mg base "Clash" CC 1 ["self","one","other"] (zgF CC)) (c:Cls K C) (nl:zy K C "laid"):
  Mt P w K mg base (CX1 P w) C "refuse_clash" 3 ["self","number","thing"] (zfq C CC):=by
 refine D.okX (k:=2) zcj (fun vs H Q E h=>?_) (fun f cdv A outer s H vs Q E hr h=>?_)
 ·obtain ⟨a,d,kvs,n,t,v,rfl,_⟩:=h;rfl
 obtain ⟨a,d,kvs,n,t,v,rfl,vo,lo,rt,gt,sn,q,qe⟩:=h
 obtain ⟨⟨dx,fs,eo,fl⟩,ed⟩:=vo
 refine ⟨_,(zf (zD (PW.pt (ze3 (zjp (zk9 (zeG hr) (pv 1) (zaN (pv 0) (by rfl)))) (ze4 (zx (zb6 hr) (zeW (zeG hr) (zaN (pv 0) (by rfl)) (pv 1) (fun _ _=>rfl)) (pv 2) (zt _)))))
 (zf (zcd zcx rfl (zmE X_Clash hr (by omega) (by rfl) (za (zeW (zeG hr) (zaN (pv 0) (by rfl)) (pv 1) (fun _ _=>rfl)) (za (pv 2) zb)))))
 zr)),?_⟩
 refine ⟨_,rfl,_,rfl,a,C,dx,_,_,rfl,eo,c,nl,fl.la,d,_,rfl,DGet.k (k:=Sum.inl n) ed,_,rfl,?_⟩
 cases ev:valV kvs (Sum.inl n) with
 | none=>exact ifF rfl (ifF rfl (q fun t1 v1 e=>by rw [ev] at e;cases e))
 | some v1=>
  obtain ⟨t1,r1,g1,s1⟩:=lo n v1 ev
  have gd:=g1.dp
  have dg:DGet H d (.int n) (some v1):=by rw [←ev];exact DGet.k (k:=Sum.inl n) ed
  refine ifT rfl ?_
  refine ⟨_,rfl,a,C,dx,_,_,rfl,eo,c,nl,fl.la,_,rfl,d,v1,rfl,dg,_,rfl,t1,t,r1,rt,by omega,_,rfl,?_⟩
  refine ifB (fun cc=>?_) (fun cc=>?_)
  ·have ne:t1≠t:=fun z=>by rw [z,zaw] at cc;cases cc
   refine ⟨_,rfl,a,C,dx,_,_,rfl,eo,c,nl,fl.la,_,rfl,d,v1,rfl,dg,_,rfl,szl (show 2≤1000 by decide),fun x hx=>?_⟩
   refine ⟨x,v1,v,rfl,ze,fun d' hd' hdx=>⟨rfl,?_⟩⟩
   have hd2:H d'=none:=by rw [zj hdx] at hd';exact hd'
   refine ⟨x,CC,some d',rfl,by rw [zj (Ne.symm hdx)];exact ze,X_Clash.cl.q,?_⟩
   refine qe t1 v1 ev r1 g1 (s1.trans sn.symm) ne _ d' (fun b o hb=>?_) ?_
   ·have b1:b≠x:=zh hb hx
    have b2:b≠d':=zh hb hd2
    rw [zbn b1,zj b2,zj b1,zj b2,zj b1];exact hb
   ·rw [zbn hdx];exact ze
  ·have eq:t1=t:=(zbw t1 t).mp (by cases z:eqT t1 t with | true=>rfl | false=>rw [z] at cc;cases cc)
   exact q fun t2 v2 e r2=>by rw [ev] at e;cases e;exact (r2.uniq r1).trans eq
theorem zlD (D:Mdf K C "lay" "Vault.lay" zb8 ["self","thing"]) (M_refuse_clash:Mt P w K mg base (CX1 P w) C "refuse_clash" 3 ["self","number","thing"] (zfq C CC)) (F_seal:Fn P w K mg base "seal" 13 ["thing"] zcf) (c_K:Cls K C) (nl:zy K C "laid"):
  Mt P w K mg base (CX1 P w) C "lay" 14 ["self","thing"] (zkF C CC):=by
 refine D.okX (k:=13) zdz (fun vs H Q E h=>?_) (fun f cdv A outer s H vs Q E hr h=>?_)
 ·obtain ⟨a,d,kvs,t,v,rfl,_⟩:=h;rfl
 obtain ⟨a,d,kvs,t,v,rfl,vo,lo,hl,rt,gt,q,qe⟩:=h
 have gd:=gt.dp
 have gn:=gt.nd
 refine ⟨_,(zc (zq (i:=2) zdz.nd rfl (Or.inl rfl) (zw F_seal hr (by omega) (by rfl) (za (pv 1) zb)))
 (zc (zao (zhi (pv 0) c_K M_refuse_clash hr (by omega) zE (za (pv 2) (za (pv 1) zb))))
 (zc (zke (zeG hr) (zaN (pv 0) (by rfl)) (pv 2) (pv 1) (by rfl))
 (zf (zl (pv 2)))))),?_⟩
 refine ⟨_,rfl,t,v,rfl,rt,gt.wf,by omega,by omega,fun H1 s1=>?_⟩
 have vo1:=vo.keep s1
 obtain ⟨⟨dx,fs,eo,fl⟩,ed⟩:=id vo1
 have rt1:=rt.keep (Same.tups s1)
 refine ⟨_,rfl,a,dx,_,rfl,eo,fl.n1,_,rfl,_,rfl,a,d,kvs,_,t,v,rfl,vo1,lo.keep (Same.tups s1),rt1,gt,rfl,fun same=>?_,fun t1 v1 ev r1 g1 sn ne=>qe t1 v1 H1 s1 ev r1 g1 sn ne⟩
 refine ⟨_,rfl,_,rfl,a,C,dx,_,_,rfl,eo,c_K,nl,fl.la,_,rfl,d,_,rfl,DPut.k (k:=Sum.inl (zk t)) ed (Nat.lt_of_le_of_lt hl (by decide+kernel)),?_⟩
 exact ⟨_,rfl,q H1 s1 fun t1 v1 e r=>same t1 v1 e (r.keep (Same.tups s1))⟩
theorem zhC {CN:Addr}(D:Mdf K C "thing" "Vault.thing" zbe ["self","number"]) (X_NoPaper:XP K mg "NoPaper" CN) (c:Cls K C) (nl:zy K C "laid"):Mt P w K mg base (CX1 P w) C "thing" 1 ["self","number"] (zfS C CN):=by
 refine D.okX (k:=0) zey (fun vs H Q E h=>?_) (fun f cdv A outer s H vs Q E hr h=>?_)
 ·obtain ⟨a,d,kvs,n,rfl,_⟩:=h;rfl
 obtain ⟨a,d,kvs,n,rfl,⟨⟨dx,fs,eo,fl⟩,ed⟩,q,qe⟩:=h
 refine ⟨_,(zc (zD (zjp (zht (zeG hr) (pv 1) (zaN (pv 0) (by rfl))))
 (zf (zcd zcx rfl (zgL X_NoPaper (by rfl) (za z7 zb))))
 zr)
 (zf (zl (zeW (zeG hr) (zaN (pv 0) (by rfl)) (pv 1) (fun _ _=>rfl))))),?_⟩
 refine ⟨_,rfl,_,rfl,a,C,dx,_,_,rfl,eo,c,nl,fl.la,d,_,rfl,DGet.k (k:=Sum.inl n) ed,_,rfl,?_⟩
 cases ev:valV kvs (Sum.inl n) with
 | none=>
  refine ifT rfl ⟨szl (show 1≤1000 by decide),fun e he=>⟨e,CN,none,rfl,ze,X_NoPaper.cl.q,?_⟩⟩
  rw [zdK he]
  exact qe ev
 | some v=>
  have dg:DGet H d (.int n) (some v):=by rw [←ev];exact DGet.k (k:=Sum.inl n) ed
  refine ifF rfl ?_
  exact ⟨_,rfl,a,C,dx,_,_,rfl,eo,c,nl,fl.la,_,rfl,d,v,rfl,dg,q v ev⟩
end
end Pv
namespace Pv
open PySem L2
def addT (cs:List (Int ×Th))(n:Int)(t:Th):List (Int ×Th):=match zC cs n with | none=>cs++ [(n,t)] | some _=>cs
def Fits (cs:List (Int ×Th))(n:Int)(t:Th):Prop:=zC cs n=none∨zC cs n=some t
structure GoodC (cs:List (Int ×Th)):Prop where
 nd:(cs.map (·.1)).Nodup
 gd:∀p∈cs,Good p.2∧zk p.2=p.1
theorem zcu {cs:List (Int ×Th)}{n:Int}{t:Th}(h:zC cs n=none):addT cs n t=cs++ [(n,t)]:=by unfold addT;rw [h]
theorem zcg {cs:List (Int ×Th)}{n:Int}{t u:Th}(h:zC cs n=some u):addT cs n t=cs:=by unfold addT;rw [h]
theorem ziL (cs:List (Int ×Th))(n:Int)(t:Th):(addT cs n t).length≤cs.length+1:=by
 cases e:zC cs n with
 | none=>rw [zcu e,List.length_append];exact Nat.le_refl _
 | some u=>rw [zcg e];omega
theorem DRep.add {H:Hp}{cs:List (Int ×Th)}{kvs:List (Key ×V)}{n:Int}{t:Th}{v:V}(r:DRep H cs kvs)(h:Rep H t v)(f:Fits cs n t)(nd:(cs.map (·.1)).Nodup):DRep H (addT cs n t) (putK kvs (.inl n) v):=by
 rcases f with f | f
 ·rw [zcu f];exact r.put h f
 ·rw [zcg f];exact r.again h f nd
theorem GoodC.add {cs:List (Int ×Th)}{n:Int}{t:Th}(g:GoodC cs)(gt:Good t)(sn:zk t=n):GoodC (addT cs n t):=by
 cases e:zC cs n with
 | some u=>rw [zcg e];exact g
 | none=>
  rw [zcu e]
  refine ⟨?_,fun p hp=>?_⟩
  ·rw [List.map_append,List.nodup_append]
   refine ⟨g.nd,by simp,fun a ha b hb=>?_⟩
   cases List.mem_singleton.mp hb
   exact fun z=>zf2 e (by have z':a=n:=z;rw [←z'];exact ha)
  ·rcases List.mem_append.mp hp with h | h
   ·exact g.gd p h
   ·cases List.mem_singleton.mp h
    exact ⟨gt,sn⟩
theorem GoodC.nil:GoodC []:=⟨List.nodup_nil,fun p h=>by cases h⟩
theorem GoodC.dep {cs:List (Int ×Th)}{n:Int}{t:Th}(g:GoodC cs)(e:zC cs n=some t):Good t∧zk t=n:=g.gd _ (zeD e)
theorem zh4 {cs:List (Int ×Th)}{n m:Int}{t u:Th}(e:zC cs m=some u):zC (addT cs n t) m=some u:=by
 cases z:zC cs n with
 | some y=>rw [zcg z];exact e
 | none=>rw [zcu z,zd6,e]
theorem zfT {cs:List (Int ×Th)}{n:Int}{t:Th}(f:Fits cs n t):zC (addT cs n t) n=some t:=by
 rcases f with f | f
 ·rw [zcu f,zd6,f];exact if_pos rfl
 ·rw [zcg f];exact f
end Pv
namespace Pv
open PySem L2
theorem zhU {a c:Th}(b:Th)(h:zu a c=true):zu a b=true∨zu b c=true:=by
 rw [←zaQ] at h
 rw [←zaQ,←zaQ]
 exact ze5 _ _ _ h
def zcl (t:Th):Int:=zk (.tup [.str ("rank" :Str),t])
def zaM (t u:Th):Bool:=if zcl t=zcl u then zu t u else decide (zcl u < zcl t)
abbrev zau (k wo:Th)(l r c:Int):Th:=.tup [k,wo,.int l,.int r,.int c]
theorem zW (t:Th):1≤zk t∧zk t≤2305843009213693951:=by
 have:=zdx (zaE t)
 unfold zk
 omega
structure KeyT (t:Th):Prop where
 wf:Wf t
 dp:dep t≤3
 nd:nodes t≤10
 ne:t≠ .non
instance decTh:DecidableEq Th:=fun t u=>decidable_of_iff _ (zbw t u)
inductive Tr where
 | nil:Tr
 | node (l:Tr) (k w:Th) (r:Tr):Tr
namespace Tr
def ps:Tr→List (Th ×Th)
 | nil=>[]
 | node l k w r=>l.ps++(k,w)::r.ps
def root:Tr→Int
 | nil=>0
 | node l k w r=>zk (zau k w l.root r.root (((l.ps++(k,w)::r.ps).length:Nat):Int))
abbrev cnt (T:Tr):Nat:=T.ps.length
def thing:Tr→Th
 | nil=>.non
 | node l k w r=>zau k w l.root r.root (((l.ps++(k,w)::r.ps).length:Nat):Int)
def InV (cs:List (Int ×Th)):Tr→Prop
 | nil=>True
 | node l k w r=>zC cs (node l k w r).root=some (node l k w r).thing∧l.InV cs∧r.InV cs
def kid (x:Th):Tr→Tr
 | nil=>nil
 | node l k _ r=>if zu k x=true then r else l
def down (x:Th):Nat→Tr→Tr
 | 0,T=>T
 | n+1,T=>down x n (T.kid x)
def plug (x:Th):Nat→Tr→Tr→Tr
 | 0,_,S=>S
 | _+1,nil,_=>nil
 | n+1,node l k w r,S=>if zu k x=true then node l k w (plug x n r S) else node (plug x n l S) k w r
def spl (x:Th):Nat→Tr→Tr ×Tr
 | 0,T=>(T,nil)
 | _+1,nil=>(nil,nil)
 | n+1,node l k w r=>if zu k x=true then (node l k w (spl x n r).1,(spl x n r).2) else ((spl x n l).1,node (spl x n l).2 k w r)
def wl (x:Th):Tr→Nat
 | nil=>0
 | node l k _ r=>if k=x then 1 else (if zu k x=true then r.wl x else l.wl x)+1
def own (x:Th):Tr→Tr
 | nil=>nil
 | node l k w r=>if k=x then node l k w r else if zu k x=true then r.own x else l.own x
end Tr
open Tr
theorem zcm (l:Tr)(k w:Th)(r:Tr):(node l k w r).cnt=l.cnt+r.cnt+1:=by
 show (l.ps++(k,w)::r.ps).length=_
 rw [List.length_append,List.length_cons]
 show l.ps.length+(r.ps.length+1)=l.ps.length+r.ps.length+1
 omega
def Sub (cs cs':List (Int ×Th)):Prop:=∀n t,zC cs n=some t→zC cs' n=some t
theorem Sub.refl (cs:List (Int ×Th)):Sub cs cs:=fun _ _ h=>h
theorem Sub.trans {a b c:List (Int ×Th)}(h:Sub a b)(h':Sub b c):Sub a c:=fun n t e=>h' n t (h n t e)
theorem InV.mono {cs cs':List (Int ×Th)}(s:Sub cs cs'):∀{T:Tr},T.InV cs→T.InV cs'
 | nil,_=>trivial
 | node _ _ _ _,h=>⟨s _ _ h.1,InV.mono s h.2.1,InV.mono s h.2.2⟩
def Srt (ps:List (Th ×Th)):Prop:=ps.Pairwise fun p q=>zu p.1 q.1=true
theorem ziJ {l:Tr}{k w:Th}{r:Tr}(h:Srt (node l k w r).ps):Srt l.ps∧Srt r.ps∧(∀p∈l.ps,zu p.1 k=true)∧(∀p∈r.ps,zu k p.1=true):=by
 have h':Srt (l.ps++(k,w)::r.ps):=h
 obtain ⟨h1,h2,h3⟩:=List.pairwise_append.mp h'
 obtain ⟨h4,h5⟩:=List.pairwise_cons.mp h2
 exact ⟨h1,h5,fun p hp=>h3 p hp _ List.mem_cons_self,fun p hp=>h4 p hp⟩
def lo (ps:List (Th ×Th))(x:Th):List (Th ×Th):=ps.filter fun p=>zu p.1 x
def hi (ps:List (Th ×Th))(x:Th):List (Th ×Th):=ps.filter fun p=>zu x p.1
def hiE (ps:List (Th ×Th))(x:Th):List (Th ×Th):=ps.filter fun p=>!zu p.1 x
def insP (ps:List (Th ×Th))(x w:Th):List (Th ×Th):=lo ps x++(x,w)::hi ps x
def Up (x:Th):Nat→Tr→Prop
 | 0,_=>True
 | _+1,nil=>False
 | n+1,node l k _ r=>k≠x∧Up x n (if zu k x=true then r else l)
def Tr.plc (x:Th):Tr→Nat
 | nil=>0
 | node l k _ r=>if zaM x k=true then 0 else (if zu k x=true then r.plc x else l.plc x)+1
def Tr.putT (x w:Th)(T:Tr):Tr:=
 match own x T with
 | node l _ _ r=>plug x (wl x T - 1) T (node l x w r)
 | nil=>plug x (plc x T) T (node (spl x (wl x T - plc x T) (down x (plc x T) T)).1 x w (spl x (wl x T - plc x T) (down x (plc x T) T)).2)
end Pv
namespace L2
open PySem PySem.Spec PyProof.Rows
structure PEw (X:Cx)(e:Expr)(t:TE):Prop where
 h:PE X e t
structure PAw (X:Cx)(es:List Expr)(t:TA):Prop where
 h:PA X es t
structure PPw (X:Cx)(pos:Pos)(keys:List (Option Expr))(values:List Expr)(trs:List (TE ×TE)):Prop where
 h:PPs X pos keys values trs
structure PSw (X:Cx)(st:Stmt)(t:TS):Prop where
 h:PS X st t
structure PSq (X:Cx)(st:List Stmt)(t:TS):Prop where
 h:PSs X st t
section
variable {X:Cx}
end
end L2
namespace L2
open PySem PySem.Spec PyProof.Rows
section
variable {X:Cx}{pins:List (Addr ×Obj)}{σ:St}{H:Hp}{s:Shared}{d:Addr}{kvs:List (Key ×V)}{o:Obj}
theorem Inv.thaw (I:Inv X pins σ H s)(e:H d=some (.frz o (.dK kvs)))(n0:∀ob u,X.H₀ d≠some (.frz ob u)):Inv X pins σ (upd H d (.dK kvs)) s:=by
 have nd:∀b,H b=none→b≠d:=fun b hb z=>by rw [z,e] at hb;cases hb
 refine ⟨I.ok,I.os,I.bare,⟨I.base.keep,I.base.slot,fun b ob h1 h2 h3=>?_,I.base.there,fun b xs h=>?_,fun b ob u h=>?_,fun b ps h=>?_⟩,I.loc,I.cell,?_,fun x c h=>?_,fun p hp=>?_,fun a u h=>?_,I.len⟩
 ·have:=I.base.free b ob h1 h2 h3
  rw [zj (nd b this)];exact this
 ·have:=I.base.tups b xs h
  rw [zj (zaS this e (by intro z;cases z))];exact this
 ·have:=I.base.frzs b ob u h
  have bd:b≠d:=fun z=>n0 ob u (by rw [←z];exact h)
  rw [zj bd];exact this
 ·obtain ⟨more,this⟩:=I.base.tbls b ps h
  exact ⟨more,by rw [zj (zaS this e (by intro z;cases z))];exact this⟩
 ·rw [zj (nd _ I.free)];exact I.free
 ·rw [zj (nd _ (I.freeC x c h))];exact I.freeC x c h
 ·obtain ⟨a,b,c⟩:=I.pin p hp
  exact ⟨a,by rw [zj (nd _ b)];exact b,c⟩
 ·by_cases z:a=d
  ·subst z
   rw [ze] at h
   cases h
   obtain ⟨_,q⟩:=I.hok a _ e
   exact q
  ·rw [zj z] at h
   exact (I.hok a u h).stay (fun b v _ q=>q) (fun b q=>by rw [zj (zaS q e (by intro z;cases z))];exact q) fun b xs q=>by rw [zj (zaS q e (by intro z;cases z))];exact q
end
def Itd (d:Addr)(o:Obj)(kvs:List (Key ×V)):It:=⟨fun i H=>H d=some (.frz o (.dK kvs))∧i < (zem kvs).length,fun i H x H'=>H'=H∧∃n,(zem kvs)[i]? =some n∧x=.int n,fun i H=>H d=some (.frz o (.dK kvs))∧(zem kvs).length≤i⟩
section
variable {X:Cx}{tg:Expr}
def iDk (tl:TE):TI:=fun σ H R=>tl σ H fun x H1=>∃d kvs,x=.ref d∧H1 d=some (.dK kvs)∧L2.IntKeys kvs∧∀o,R (Itd d o kvs) (upd H1 d (.frz o (.dK kvs)))
def Ends.thaw (D:Ends)(H:Hp):Ends where
 nx:=fun σ H'=>∃d o kvs,H d=some (.dK kvs)∧H' d=some (.frz o (.dK kvs))∧D.nx σ (upd H' d (.dK kvs))
 rt:=fun v H'=>∃d o kvs,H d=some (.dK kvs)∧H' d=some (.frz o (.dK kvs))∧D.rt v (upd H' d (.dK kvs))
def znw (t:TS):TS:=fun D σ H=>t (D.thaw H) σ H
end
end L2
namespace L2
open PySem PySem.Spec PyProof.Rows PySem.W
section
variable {P:Program}{w:World}{A:Around}{E:Value→Shared→Prop}{s:Shared}{R:Result→Shared→Prop}{I l S:Addr}{items:Array Value}
end
section
variable {P:Program}{w:World}{A:Around}{E:Value→Shared→Prop}{s:Shared}{I l:Addr}{items:Array Value}
end
section
variable {X:Cx}{e:Expr}{te:TE}{p1 p2 q1 q2:Pos}
end
end L2
namespace L2
open PySem PySem.Spec PyProof.Rows PySem.W
def Itv (K:PySem.W.Frag)(p:Addr)(xs:List V):It:=
 ⟨fun n H=>SqL K H p xs∧n < xs.length,fun n H v H'=>H'=H∧xs.reverse[n]? =some v,fun n H=>SqL K H p xs∧xs.length≤n⟩
section
variable {X:Cx}
def iRev (K:PySem.W.Frag)(te:TE):TI:=fun σ H R=>te σ H fun x H1=>∃(p:Addr) (xs:List V),x=.ref p∧SqL K H1 p xs∧R (Itv K p xs) H1
end
end L2
namespace Pv
open PySem L2
abbrev zcA:Stmt:=top 17
theorem zer:zm ["value"] ["value"] (zg zcA):=⟨rfl,rfl,rfl,by decide+kernel,rfl,by decide+kernel,by decide+kernel⟩
abbrev zd8:Stmt:=top 40
theorem zhN:zm ["thing"] ["thing"] (zg zd8):=⟨rfl,rfl,rfl,by decide+kernel,rfl,by decide+kernel,by decide+kernel⟩
abbrev zd5:Stmt:=top 39
theorem zhR:zm ["thing"] ["thing"] (zg zd5):=⟨rfl,rfl,rfl,by decide+kernel,rfl,by decide+kernel,by decide+kernel⟩
abbrev zbD:Stmt:=top 38
theorem zcs:zm ["vault","root","count","node"] ["vault","root","count"] (zg zbD):=⟨rfl,rfl,rfl,by decide+kernel,rfl,by decide+kernel,by decide+kernel⟩
abbrev zbG:Stmt:=top 42
theorem zd1:zm ["vault","root","count"] ["vault","root","count"] (zg zbG):=⟨rfl,rfl,rfl,by decide+kernel,rfl,by decide+kernel,by decide+kernel⟩
abbrev ssize:Stmt:=top 41
theorem zlH:zm ["vault","root"] ["vault","root"] (zg ssize):=⟨rfl,rfl,rfl,by decide+kernel,rfl,by decide+kernel,by decide+kernel⟩
abbrev ziz:Stmt:=top 43
theorem zlf:zm ["key"] ["key"] (zg ziz):=⟨rfl,rfl,rfl,by decide+kernel,rfl,by decide+kernel,by decide+kernel⟩
abbrev zgu:Stmt:=top 44
theorem zeX:zm ["key","other","mine","its"] ["key","other"] (zg zgu):=⟨rfl,rfl,rfl,by decide+kernel,rfl,by decide+kernel,by decide+kernel⟩
open Tr
theorem Mt.imp {P:Program}{w:World}{K:PySem.W.Frag}{mg:Str→Option Value}{base:Heap}{CX:CXT}{C:Addr}{m:Str}{k:Nat}{ps:List Str}{sp sp':Sp}(F:Mt P w K mg base CX C m k ps sp)(h:∀vs H Q E,sp' vs H Q E→sp vs H Q E):Mt P w K mg base CX C m k ps sp':=by
 obtain ⟨f,fd,a,b⟩:=F.ex
 exact ⟨f,fd,a.imp h,b⟩
structure VS (H:Hp)(C a d:Addr)(cs:List (Int ×Th)):Prop where
 vo:∃kv,VOk H C a d kv∧DRep H cs kv
 gc:GoodC cs
theorem VS.same {H H':Hp}{C a d:Addr}{cs:List (Int ×Th)}(v:VS H C a d cs)(s:Same H H'):VS H' C a d cs:=by
 obtain ⟨kv,vo,dr⟩:=v.vo
 exact ⟨⟨kv,vo.keep s,dr.keep (Same.tups s)⟩,v.gc⟩
def Fr1 (d:Addr)(H H':Hp):Prop:=∀b o,b≠d→H b=some o→H' b=some o
theorem Fr1.refl (d:Addr)(H:Hp):Fr1 d H H:=fun _ _ _ e=>e
theorem Fr1.trans {d:Addr}{H H' H'':Hp}(f:Fr1 d H H')(g:Fr1 d H' H''):Fr1 d H H'':=fun b o n e=>g b o n (f b o n e)
theorem Same.fr1 {d:Addr}{H H':Hp}(s:Same H H'):Fr1 d H H':=fun b o _ e=>s b o e
theorem VS.ne {H:Hp}{C a d:Addr}{cs:List (Int ×Th)}{b:Addr}{o:HO}(v:VS H C a d cs)(e:H b=some o)(h:∀kv,o≠ .dK kv):b≠d:=by
 obtain ⟨kv,vo,_⟩:=v.vo
 intro z
 rw [z,vo.di] at e
 cases e
 exact h kv rfl
theorem VS.tups {H H':Hp}{C a d:Addr}{cs:List (Int ×Th)}(v:VS H C a d cs)(f:Fr1 d H H'):Tups H H':=fun b xs e=>f b _ (v.ne e (by intro kv z;cases z)) e
theorem VS.lst {H H':Hp}{C a d:Addr}{cs:List (Int ×Th)}{b:Addr}{xs:List V}(v:VS H C a d cs)(f:Fr1 d H H')(e:H b=some (.lst xs)):H' b=some (.lst xs):=f b _ (v.ne e (by intro kv z;cases z)) e
def Cl (CC:Addr)(E:XK):Prop:=∀(t1 t2:Th) (v1 v2:V) (H:Hp) (x:Addr),Rep H t1 v1→Rep H t2 v2→Good t1→Good t2→t1≠t2→zk t1=zk t2→H x=some (xdO x [("one",v1),("other",v2)])→E (.ref CC) (some x) H
def znj (C CC:Addr):Sp:=fun vs H Q E=>∃(a d:Addr) (cs:List (Int ×Th)) (t:Th) (v:V),vs=[.ref a,v]∧VS H C a d cs∧cs.length≤1000000∧Rep H t v∧Good t∧Cl CC E∧
 ∀H',Fr1 d H H'→Fits cs (zk t) t→VS H' C a d (addT cs (zk t) t)→Q (.int (zk t)) H'
def zmF (C:Addr):Sp:=fun vs H Q _=>∃(a d:Addr) (cs:List (Int ×Th)) (n:Int) (t:Th),vs=[.ref a,.int n]∧VS H C a d cs∧zC cs n=some t∧∀v,Rep H t v→Q v H
structure NodeOk (k wo:Th)(l r c:Int):Prop where
 k0:k≠ .non
 w0:wo≠ .non
 l0:0≤l
 r0:0≤r
 c1:1≤c
 c2:c≤300
def zhm:Sp:=fun vs H Q _=>(∃i:Int,vs=[.int i]∧Q (.bl true) H)∨(vs=[.non]∧Q (.bl false) H)
def zm2:Sp:=fun vs H Q _=>∃i:Int,vs=[.int i]∧0≤i∧Q (.bl true) H
def zmg:Sp:=fun vs H Q _=>∃(v:V) (k wo:Th) (l r c:Int),vs=[v]∧Rep H (zau k wo l r c) v∧NodeOk k wo l r c∧Q (.bl true) H
structure TOk (cs:List (Int ×Th))(T:Tr):Prop where
 iv:T.InV cs
 ky:∀p∈T.ps,KeyT p.1∧KeyT p.2
 ct:T.cnt≤300
theorem TOk.mono {cs cs':List (Int ×Th)}{T:Tr}(t:TOk cs T)(s:Sub cs cs'):TOk cs' T:=⟨InV.mono s t.iv,t.ky,t.ct⟩
theorem TOk.nil {cs:List (Int ×Th)}:TOk cs Tr.nil:=⟨trivial,fun p h=>(nomatch h),Nat.zero_le _⟩
theorem TOk.l {cs:List (Int ×Th)}{l r:Tr}{k w:Th}(t:TOk cs (node l k w r)):TOk cs l:=⟨t.iv.2.1,fun p h=>t.ky p (List.mem_append_left _ h),by have:=t.ct;rw [zcm] at this;omega⟩
theorem TOk.r {cs:List (Int ×Th)}{l r:Tr}{k w:Th}(t:TOk cs (node l k w r)):TOk cs r:=⟨t.iv.2.2,fun p h=>t.ky p (List.mem_append_right _ (List.mem_cons_of_mem _ h)),by have:=t.ct;rw [zcm] at this;omega⟩
theorem TOk.kw {cs:List (Int ×Th)}{l r:Tr}{k w:Th}(t:TOk cs (node l k w r)):KeyT k∧KeyT w:=t.ky (k,w) (List.mem_append_right _ List.mem_cons_self)
theorem TOk.kid {cs:List (Int ×Th)}{T:Tr}{x:Th}(t:TOk cs T):TOk cs (T.kid x):=by
 cases T with
 | nil=>exact .nil
 | node l k w r=>
  show TOk cs (if zu k x=true then r else l)
  split
  ·exact t.r
  ·exact t.l
theorem TOk.down {cs:List (Int ×Th)}{x:Th}:∀{n:Nat} {T:Tr},TOk cs T→TOk cs (down x n T)
 | 0,_,t=>t
 | n+1,_,t=>TOk.down (n:=n) t.kid
theorem KeyT.good {t:Th}(k:KeyT t):Good t:=⟨k.wf,Nat.le_trans k.dp (by decide),Nat.le_trans k.nd (by decide)⟩
def znr (C:Addr):Sp:=fun vs H Q _=>∃(a d:Addr) (cs:List (Int ×Th)) (l r:Tr) (k w:Th) (m:Int),vs=[.ref a,.int (node l k w r).root,.int m]∧VS H C a d cs∧TOk cs (node l k w r)∧((node l k w r).cnt:Int) < m∧∀v,Rep H (node l k w r).thing v→Q v H
def zmL (C:Addr):Sp:=fun vs H Q _=>∃(a d:Addr) (cs:List (Int ×Th)) (T:Tr),vs=[.ref a,.int T.root]∧VS H C a d cs∧TOk cs T∧Q (.int (T.cnt:Int)) H
def zmd (C:Addr):Sp:=fun vs H Q _=>∃(a d:Addr) (cs:List (Int ×Th)) (T:Tr) (m:Int),vs=[.ref a,.int T.root,.int m]∧VS H C a d cs∧TOk cs T∧(T.cnt:Int) < m∧Q (.int (T.cnt:Int)) H
def zi8:Sp:=fun vs H Q _=>∃(t:Th) (v:V),vs=[v]∧Rep H t v∧Good t∧∀H',Same H H'→Q (.int (zcl t)) H'
def zeV:Sp:=fun vs H Q _=>∃(t u:Th) (v w:V),vs=[v,w]∧Rep H t v∧Rep H u w∧Good t∧Good u∧∀H',Same H H'→Q (.bl (zaM t u)) H'
theorem zh7 {t:Th}(g:Good t):Wf (.tup [.str ("rank" :Str),t])∧dep (.tup [.str ("rank" :Str),t]) < 10∧nodes (.tup [.str ("rank" :Str),t])≤100:=by
 have h1:=g.dp
 have h2:=g.nd
 refine ⟨⟨by show (2:Nat)≤40;decide,⟨by decide+kernel,by decide+kernel⟩,g.wf,trivial⟩,?_,?_⟩
 ·show max 0 (max (dep t) 0)+1 < 10
  omega
 ·show 1+(1+(nodes t+0))≤100
  omega
theorem zK {H:Hp}{k wo:Th}{l r c:Int}{v:V}(rep:Rep H (zau k wo l r c) v):∃a vk vw,v=.ref a∧H a=some (.tup [vk,vw,.int l,.int r,.int c])∧Rep H k vk∧Rep H wo vw:=by
 obtain ⟨a,xs,e,ea,r1⟩:=rep.list
 cases r1 with
 | cons h1 r2=>
 cases r2 with
 | cons h2 r3=>
 cases r3 with
 | cons h3 r4=>
 cases r4 with
 | cons h4 r5=>
 cases r5 with
 | cons h5 r6=>
 cases r6 with
 | nil=>
 cases h3
 cases h4
 cases h5
 exact ⟨a,_,_,e,ea,h1,h2⟩
theorem zlQ {H:Hp}{t:Th}{v:V}(r:Rep H t v)(h:t≠ .non):decide (v=V.non)=false:=by
 cases r with
 | non=>exact absurd rfl h
 | int i=>rfl
 | str x=>rfl
 | tup e l h=>rfl
section
variable {P:Program}{w:World}{K:PySem.W.Frag}{mg:Str→Option Value}{base:Heap}{C CC:Addr}{x:Str}{t1 t2 t3 t4 t5 t6 t7:Tok}
theorem ziH (D:Dfn K mg "is_whole" zcA ["value"]) (m_isinstance:mg "isinstance" =none) (m_int:mg "int" =none) (m_bool:mg "bool" =none):Fn P w K mg base "is_whole" 1 ["value"] zhm:=by
 refine D.ok (k:=0) zer (fun vs H Q E h=>?_) (fun f cdv A outer s H vs Q E hr h=>?_)
 ·rcases h with ⟨i,rfl,_⟩ | ⟨rfl,_⟩ <;> rfl
 refine ⟨_,(zf (zl (zbz (zF (zU) (by rfl) m_isinstance (by rfl) (za (pv 0) (za (zaz (v:=.ty "int") (by rfl) m_int (by rfl) rfl) zb))) (zbo (ze2 (zF (zU) (by rfl) m_isinstance (by rfl) (za (pv 0) (za (zaz (v:=.ty "bool") (by rfl) m_bool (by rfl) rfl) zb)))))))),?_⟩
 rcases h with ⟨i,rfl,q⟩ | ⟨rfl,q⟩
 ·refine ⟨_,rfl,_,_,_,_,rfl,.int i,rfl,_,rfl,ifT rfl ?_⟩
  refine ⟨_,rfl,_,_,_,_,rfl,.int i,rfl,_,rfl,q⟩
 ·exact ⟨_,rfl,_,_,_,_,rfl,.non,rfl,_,rfl,ifF rfl q⟩
theorem zjY (D:Dfn K mg "rank" ziz ["key"]) (F_seal:Fn P w K mg base "seal" 13 ["thing"] zcf):Fn P w K mg base "rank" 14 ["key"] zi8:=by
 refine D.ok (k:=13) zlf (fun vs H Q E h=>?_) (fun f cdv A outer s H vs Q E hr h=>?_)
 ·obtain ⟨t,v,rfl,_⟩:=h;rfl
 obtain ⟨t,v,rfl,rt,gt,q⟩:=h
 obtain ⟨g1,g2,g3⟩:=zh7 gt
 refine ⟨_,(zf (zl (zw F_seal hr (by omega) (by rfl) (za (zP (za z7 (za (pv 0) zb))) zb)))),?_⟩
 refine ⟨_,rfl,szl (show 2≤1000 by decide),fun p hp=>?_⟩
 exact ⟨_,_,rfl,(RepL.cons (.str _) (.cons rt .nil)).new hp,g1,g2,g3,fun H' s'=>q H' ((zo (Same.refl H) hp).trans s')⟩
theorem zif (D:Dfn K mg "above" zgu ["key","other"]) (F_rank:Fn P w K mg base "rank" 14 ["key"] zi8) (F_ahead:Fn P w K mg base "ahead" 20 ["one","other"] (zbc 9)):Fn P w K mg base "above" 21 ["key","other"] zeV:=by
 refine D.ok (k:=20) zeX (fun vs H Q E h=>?_) (fun f cdv A outer s H vs Q E hr h=>?_)
 ·obtain ⟨t,u,v,w,rfl,_⟩:=h;rfl
 obtain ⟨t,u,v,w,rfl,rt,ru,gt,gu,q⟩:=h
 refine ⟨_,(zc (zq (i:=2) zeX.nd rfl (Or.inl rfl) (zw F_rank hr (by omega) (by rfl) (za (pv 0) zb)))
 (zc (zq (i:=3) zeX.nd rfl (Or.inl rfl) (zw F_rank hr (by omega) (by rfl) (za (pv 1) zb)))
 (zc (zD (zx zdA (pv 2) (pv 3) (zt _))
 (zf (zl (zS zgE (pv 2) (pv 3) (zt _))))
 zr)
 (zf (zl (zw F_ahead hr (by omega) (by rfl) (za (pv 0) (za (pv 1) zb)))))))),?_⟩
 refine ⟨_,rfl,t,v,rfl,rt,gt,fun H1 s1=>?_⟩
 refine ⟨_,rfl,u,w,rfl,ru.keep (Same.tups s1),gu,fun H2 s2=>?_⟩
 have s12:=s1.trans s2
 have gd:=gt.dp
 refine ⟨_,rfl,_,rfl,rfl,_,rfl,?_⟩
 rw [zan]
 refine ifB (fun c=>?_) (fun c=>?_)
 ·have ne:zcl t≠zcl u:=fun z=>by rw [decide_eq_true z] at c;cases c
  refine ⟨_,rfl,_,rfl,_,_,rfl,rfl,?_⟩
  have:=q H2 s12
  unfold zaM at this
  rw [if_neg ne] at this
  exact this
 ·have eq:zcl t=zcl u:=by
   by_cases z:zcl t=zcl u
   ·exact z
   ·rw [decide_eq_false z] at c;cases c
  refine ⟨_,rfl,_,rfl,t,u,v,w,rfl,rt.keep (Same.tups s12),ru.keep (Same.tups s12),by omega,by omega,fun H3 s3=>?_⟩
  have:=q H3 (s12.trans s3)
  unfold zaM at this
  rw [if_pos eq] at this
  exact this
end
end Pv
namespace Pv
open PySem L2
open Tr
abbrev zei:Stmt:=top 46
theorem zia:zm ["node","key"] ["node","key"] (zg zei):=⟨rfl,rfl,rfl,by decide+kernel,rfl,by decide+kernel,by decide+kernel⟩
abbrev zgt:Stmt:=top 58
abbrev zeR:Stmt:=top 47
theorem zbL:zm ["vault","root","key","way","count","node"] ["vault","root","key"] (zg zeR):=⟨rfl,rfl,rfl,by decide+kernel,rfl,by decide+kernel,by decide+kernel⟩
abbrev zeh:Stmt:=top 48
theorem zhP:zm ["way","key"] ["way","key"] (zg zeh):=⟨rfl,rfl,rfl,by decide+kernel,rfl,by decide+kernel,by decide+kernel⟩
def zfA (x:Th)(n:Nat)(T:Tr):List Th:=(List.range n).map fun i=>(down x i T).thing
def zfK (k x:Th):Int:=if zu k x=true then 3 else 2
def Tr.isN:Tr→Bool
 | nil=>false
 | node _ _ _ _=>true
def ziw:Sp:=fun vs H Q _=>∃(v vx:V) (k w x:Th) (l r c:Int),vs=[v,vx]∧Rep H (zau k w l r c) v∧Rep H x vx∧KeyT k∧∀H',Same H H'→Q (.int (zfK k x)) H'
def zmW:Sp:=fun vs H Q _=>∃(v:V) (k w x:Th) (l r c n m:Int),vs=[v,.int (zfK k x),.int n,.int m]∧Rep H (zau k w l r c) v∧∀p H',Same H H'→Rep H' (if zu k x=true then zau k w l n m else zau k w n r m) (.ref p)→Q (.ref p) H'
def znm (C:Addr):Sp:=fun vs H Q _=>∃(a d:Addr) (cs:List (Int ×Th)) (T:Tr) (x:Th) (vx:V),vs=[.ref a,.int T.root,vx]∧VS H C a d cs∧TOk cs T∧Rep H x vx∧KeyT x∧
 ∀pw ws H',Same H H'→H pw=none→H' pw=some (.lst ws)→RepL H' (zfA x (wl x T) T) ws→Q (.ref pw) H'
def zm4 (K:PySem.W.Frag):Sp:=fun vs H Q _=>∃(pw:Addr) (ws:List V) (T:Tr) (x:Th) (vx:V),vs=[.ref pw,vx]∧SqL K H pw ws∧RepL H (zfA x (wl x T) T) ws∧(∀p∈T.ps,KeyT p.1)∧Rep H x vx∧Q (.bl (own x T).isN) H
section
variable {P:Program}{w:World}{K:PySem.W.Frag}{mg:Str→Option Value}{base:Heap}{C CC:Addr}{x:Str}{t1 t2 t3 t4 t5 t6 t7:Tok}
theorem zkn (D:Dfn K mg "side_of" zei ["node","key"]) (F_ahead:Fn P w K mg base "ahead" 20 ["one","other"] (zbc 9)) (g_KEY:mg "KEY" =some (.int 0 t1)) (g_LEFT:mg "LEFT" =some (.int 2 t3)) (g_RIGHT:mg "RIGHT" =some (.int 3 t4)):Fn P w K mg base "side_of" 21 ["node","key"] ziw:=by
 refine D.ok (k:=20) zia (fun vs H Q E h=>?_) (fun f cdv A outer s H vs Q E hr h=>?_)
 ·obtain ⟨v,vx,k,w,x,l,r,c,rfl,_⟩:=h;rfl
 obtain ⟨v,vx,k,w,x,l,r,c,rfl,rn,rx,kk,q⟩:=h
 obtain ⟨p,vk,vw,rfl,ea,rk,rw'⟩:=zK rn
 have et:SqT K H p [vk,vw,.int l,.int r,.int c]:=SqT.of ea
 have kd:=kk.dp
 refine ⟨_,(zf (zl (zcZ (zQ (zw F_ahead hr (by omega) (by rfl) (za (zz zH (pv 0) (zv (v:=.int 0) (by rfl) g_KEY ⟨_,rfl⟩) (fun _ _=>rfl)) (za (pv 1) zb)))) (zv (v:=.int 3) (by rfl) g_RIGHT ⟨_,rfl⟩) (zv (v:=.int 2) (by rfl) g_LEFT ⟨_,rfl⟩)))),?_⟩
 refine ⟨_,rfl,p,_,_,_,rfl,rfl,et,rfl,_,rfl,k,x,_,_,rfl,rk,rx,by omega,by omega,fun H1 s1=>⟨_,rfl,?_⟩⟩
 have q1:=q H1 s1
 unfold zfK at q1
 cases z:zu k x with
 | true=>rw [if_pos z] at q1;exact ifT rfl q1
 | false=>rw [if_neg (by rw [z];exact Bool.false_ne_true)] at q1;exact ifF rfl q1
end
end Pv
namespace L2
open PySem PySem.Spec PyProof.Rows
def Ite (K:PySem.W.Frag)(p:Addr)(xs:List V):It:=
 ⟨fun n H=>SqL K H p xs∧n < xs.length,fun n H v H'=>∃(T:Addr) (x:V),H T=none∧xs[n]? =some x∧v=.ref T∧H'=upd H T (.tup [.int n,x]),fun n H=>SqL K H p xs∧xs.length≤n⟩
section
variable {X:Cx}
def znx (K:PySem.W.Frag)(ta:TA):TI:=fun σ H R=>ta σ H fun vs H1=>∃(p:Addr) (xs:List V),vs=[.ref p]∧SqL K H1 p xs∧R (Ite K p xs) H1
end
end L2
namespace Pv
open PySem L2
open Tr
abbrev zmi:Stmt:=top 59
abbrev zj4:Stmt:=top 60
def zmV (K:PySem.W.Frag)(C CC:Addr):Sp:=fun vs H Q E=>∃(a d pw:Addr) (cs:List (Int ×Th)) (T S:Tr) (x:Th) (vx:V) (n:Nat) (ws:List V) (more:Int),vs=[.ref a,.ref pw,vx,.int S.root,.int more]∧VS H C a d cs∧H pw=some (.lst ws)∧RepL H (zfA x n T) ws∧(∀m,m < n→down x m T≠nil)∧Rep H x vx∧
 TOk cs T∧S.InV cs∧T.cnt+S.cnt≤300+(down x n T).cnt∧more=(S.cnt:Int) - ((down x n T).cnt:Int)∧cs.length+n≤1000000∧Cl CC E∧
 ∀cs' H',Fr1 d H H'→VS H' C a d cs'→Sub cs cs'→(plug x n T S).InV cs'→cs'.length≤cs.length+n→Q (.int (plug x n T S).root) H'
def zl5 (K:PySem.W.Frag)(C CC:Addr):Sp:=fun vs H Q E=>∃(a d pw:Addr) (cs:List (Int ×Th)) (T:Tr) (x:Th) (vx:V) (n:Nat) (ws:List V),vs=[.ref a,.ref pw,vx,.int (down x n T).root,.int ((down x n T).cnt:Int)]∧VS H C a d cs∧H pw=some (.lst ws)∧RepL H (zfA x n T) ws∧(∀m,m < n→down x m T≠nil)∧Rep H x vx∧
 TOk cs T∧cs.length+n≤1000000∧Cl CC E∧
 ∀cs' p H',Fr1 d H H'→VS H' C a d cs'→Sub cs cs'→(spl x n T).1.InV cs'→(spl x n T).2.InV cs'→cs'.length≤cs.length+n→H' p=some (.tup [.int (spl x n T).1.root,.int (spl x n T).2.root])→Q (.ref p) H'
section
variable {P:Program}{w:World}{K:PySem.W.Frag}{mg:Str→Option Value}{base:Heap}{C CC:Addr}{x:Str}{t1 t2 t3 t4 t5 t6 t7:Tok}
end
end Pv
namespace Pv
open PySem L2
open Tr
abbrev zhI:Stmt:=top 61
abbrev sput:Stmt:=top 62
theorem zkL:zm ["vault","root","key","worth","way","own","new","place","trees","count"] ["vault","root","key","worth"] (zg sput):=⟨rfl,rfl,rfl,by decide+kernel,rfl,by decide+kernel,by decide+kernel⟩
def zmP:Sp:=fun vs H Q _=>∃(pw:Addr) (ws:List V) (T:Tr) (x:Th) (vx:V),vs=[.ref pw,vx]∧H pw=some (.lst ws)∧RepL H (zfA x (wl x T) T) ws∧own x T=nil∧T.cnt≤300∧(∀p∈T.ps,KeyT p.1)∧KeyT x∧Rep H x vx∧∀H',Same H H'→Q (.int (plc x T:Int)) H'
def znz (C CC:Addr):Sp:=fun vs H Q E=>∃(a d:Addr) (cs:List (Int ×Th)) (T:Tr) (x w:Th) (vx vw:V),vs=[.ref a,.int T.root,vx,vw]∧VS H C a d cs∧TOk cs T∧T.cnt≤299∧Rep H x vx∧KeyT x∧Rep H w vw∧KeyT w∧cs.length≤900000∧Cl CC E∧
 ∀cs' H',Fr1 d H H'→VS H' C a d cs'→Sub cs cs'→(putT x w T).InV cs'→cs'.length≤cs.length+300→Q (.int (putT x w T).root) H'
theorem RepL.take {H:Hp}:∀{ts:List Th} {vs:List V} (n:Nat),RepL H ts vs→RepL H (ts.take n) (vs.take n)
 | _,_,0,_=>by rw [List.take_zero,List.take_zero];exact .nil
 | _,_,n+1,.nil=>by rw [List.take_nil,List.take_nil];exact .nil
 | _,_,n+1,.cons h r=>.cons h (RepL.take n r)
theorem RepL.drop {H:Hp}:∀{ts:List Th} {vs:List V} (n:Nat),RepL H ts vs→RepL H (ts.drop n) (vs.drop n)
 | _,_,0,r=>r
 | _,_,n+1,.nil=>by rw [List.drop_nil,List.drop_nil];exact .nil
 | _,_,n+1,.cons h r=>RepL.drop n r
section
variable {P:Program}{w:World}{K:PySem.W.Frag}{mg:Str→Option Value}{base:Heap}{C CC:Addr}{x:Str}{t1 t2 t3 t4 t5 t6 t7:Tok}
end
end Pv
namespace Pv
open PySem L2
open Tr
def inR (a b:Th)(p:Th ×Th):Bool:=(decide (a=.non) || !zu p.1 a) && (decide (b=.non) || zu p.1 b)
def rng (a b:Th)(ps:List (Th ×Th)):List (Th ×Th):=ps.filter (inR a b)
theorem zgq (a b:Th)(ps qs:List (Th ×Th)):rng a b (ps++qs)=rng a b ps++rng a b qs:=List.filter_append ..
theorem ziI {a b:Th}{ps:List (Th ×Th)}(h:∀p∈ps,inR a b p=false):rng a b ps=[]:=List.filter_eq_nil_iff.mpr fun p hp=>by rw [h p hp];exact Bool.false_ne_true
def zai (a b:Th):Bool:= !decide (a=.non) && (!decide (b=.non) && !zu a b)
def zad (a k:Th):Bool:=decide (a=.non) || zu a k
def zav (b k:Th):Bool:=decide (b=.non) || zu k b
theorem zhQ {a b k:Th}{ps:List (Th ×Th)}(h:zad a k=false)(hp:∀p∈ps,zu p.1 k=true):rng a b ps=[]:=by
 unfold zad at h
 rw [Bool.or_eq_false_iff] at h
 refine ziI fun p hp'=>?_
 unfold inR
 rw [h.1]
 rcases zhU a (hp p hp') with y | y
 ·rw [y];rfl
 ·rw [h.2] at y;cases y
def pend (a b:Th):List Tr→List (Th ×Th)
 | []=>[]
 | nil::st=>pend a b st
 | node _ k w r::st=>rng a b ((k,w)::r.ps)++pend a b st
def zdu:List Tr→Nat
 | []=>0
 | nil::st=>zdu st
 | node _ _ _ r::st=>1+2 * r.cnt+zdu st
def Tr.ca (x:Th):Tr→Nat
 | nil=>0
 | node l k _ r=>if k=x then l.cnt else if zu k x=true then l.cnt+1+r.ca x else l.ca x
end Pv
namespace Pv
open PySem L2
open Tr
abbrev zdn:Stmt:=top 50
theorem zgo:zm ["low","high"] ["low","high"] (zg zdn):=⟨rfl,rfl,rfl,by decide+kernel,rfl,by decide+kernel,by decide+kernel⟩
abbrev zcL:Stmt:=top 51
theorem zfF:zm ["node","low"] ["node","low"] (zg zcL):=⟨rfl,rfl,rfl,by decide+kernel,rfl,by decide+kernel,by decide+kernel⟩
abbrev zck:Stmt:=top 52
theorem zfe:zm ["node","high"] ["node","high"] (zg zck):=⟨rfl,rfl,rfl,by decide+kernel,rfl,by decide+kernel,by decide+kernel⟩
abbrev zch:Stmt:=top 53
theorem zbW:zm ["vault","node","left","right"] ["vault","node"] (zg zch):=⟨rfl,rfl,rfl,by decide+kernel,rfl,by decide+kernel,by decide+kernel⟩
abbrev zbT:Stmt:=top 55
theorem zaF:zm ["vault","root","key","many","node"] ["vault","root","key"] (zg zbT):=⟨rfl,rfl,rfl,by decide+kernel,rfl,by decide+kernel,by decide+kernel⟩
abbrev zel:Stmt:=top 56
theorem zeP:zm ["vault","root","low","high","many"] ["vault","root","low","high"] (zg zel):=⟨rfl,rfl,rfl,by decide+kernel,rfl,by decide+kernel,by decide+kernel⟩
abbrev snth:Stmt:=top 57
theorem zdC:zm ["vault","root","number","count","node","left"] ["vault","root","number"] (zg snth):=⟨rfl,rfl,rfl,by decide+kernel,rfl,by decide+kernel,by decide+kernel⟩
abbrev zab (p:Th ×Th):Th:=.tup [p.1,p.2]
def nthP (ps:List (Th ×Th))(n:Int):Th:=if n < 0 then .non else match ps[n.toNat]? with | none=>.non | some p=>zab p
theorem zb1 {H:Hp}{t:Th}{v:V}(r:Rep H t v):decide (v=V.non)=decide (t=.non):=by
 cases r with
 | non=>rfl
 | int i=>exact (decide_eq_false (by intro z;cases z)).trans (decide_eq_false (by intro z;cases z)).symm
 | str x=>exact (decide_eq_false (by intro z;cases z)).trans (decide_eq_false (by intro z;cases z)).symm
 | tup e l h=>exact (decide_eq_false (by intro z;cases z)).trans (decide_eq_false (by intro z;cases z)).symm
def ze9:Sp:=fun vs H Q _=>∃(a b:Th) (va vb:V),vs=[va,vb]∧Rep H a va∧Rep H b vb∧dep a≤3∧∀H',Same H H'→Q (.bl (zai a b)) H'
def zhf:Sp:=fun vs H Q _=>∃(v va:V) (k w a:Th) (l r c:Int),vs=[v,va]∧Rep H (zau k w l r c) v∧Rep H a va∧dep a≤3∧∀H',Same H H'→Q (.bl (zad a k)) H'
def zgV:Sp:=fun vs H Q _=>∃(v va:V) (k w a:Th) (l r c:Int),vs=[v,va]∧Rep H (zau k w l r c) v∧Rep H a va∧dep k≤3∧∀H',Same H H'→Q (.bl (zav a k)) H'
def znA (C:Addr):Sp:=fun vs H Q _=>∃(a d:Addr) (cs:List (Int ×Th)) (l r:Tr) (k w:Th) (v:V),vs=[.ref a,v]∧VS H C a d cs∧TOk cs (node l k w r)∧Rep H (node l k w r).thing v∧Q .non H
def zmD (C:Addr):Sp:=fun vs H Q _=>∃(a d:Addr) (cs:List (Int ×Th)) (T:Tr) (x:Th) (vx:V),vs=[.ref a,.int T.root,vx]∧VS H C a d cs∧TOk cs T∧Srt T.ps∧Rep H x vx∧KeyT x∧∀H',Same H H'→Q (.int ((lo T.ps x).length:Int)) H'
def Bd (t:Th):Prop:=t=.non∨KeyT t
theorem Bd.dp {t:Th}(h:Bd t):dep t≤3:=by
 rcases h with rfl | h
 ·exact Nat.zero_le _
 ·exact h.dp
def zl2 (C:Addr):Sp:=fun vs H Q _=>∃(a d:Addr) (cs:List (Int ×Th)) (T:Tr) (x y:Th) (vx vy:V),vs=[.ref a,.int T.root,vx,vy]∧VS H C a d cs∧TOk cs T∧Srt T.ps∧Rep H x vx∧Bd x∧Rep H y vy∧Bd y∧∀H',Same H H'→Q (.int ((rng x y T.ps).length:Int)) H'
def zno (C:Addr):Sp:=fun vs H Q _=>∃(a d:Addr) (cs:List (Int ×Th)) (T:Tr) (n:Int),vs=[.ref a,.int T.root,.int n]∧VS H C a d cs∧TOk cs T∧∀v H',Same H H'→Rep H' (nthP T.ps n) v→Q v H'
section
variable {P:Program}{w:World}{K:PySem.W.Frag}{mg:Str→Option Value}{base:Heap}{C CC:Addr}{x:Str}{t1 t2 t3 t4 t5 t6 t7:Tok}
theorem zjy (D:Dfn K mg "is_empty" zdn ["low","high"]) (F_ahead:Fn P w K mg base "ahead" 20 ["one","other"] (zbc 9)):Fn P w K mg base "is_empty" 21 ["low","high"] ze9:=by
 refine D.ok (k:=20) zgo (fun vs H Q E h=>?_) (fun f cdv A outer s H vs Q E hr h=>?_)
 ·obtain ⟨a,b,va,vb,rfl,_⟩:=h;rfl
 obtain ⟨a,b,va,vb,rfl,ra,rb,hd,q⟩:=h
 refine ⟨_,(zf (zl (zbz (zS zdG (pv 0) zJ (zt _)) (zbz (zS zdG (pv 1) zJ (zt _)) (zbo (ze2 (zw F_ahead hr (by omega) (by rfl) (za (pv 0) (za (pv 1) zb))))))))),?_⟩
 have e1:=zb1 ra
 have e2:=zb1 rb
 refine ⟨_,rfl,rfl,_,rfl,?_⟩
 rw [e1]
 unfold zai at q
 cases z:decide (a=.non) with
 | true=>
  rw [z] at q
  exact ifF rfl (q H (Same.refl H))
 | false=>
  rw [z] at q
  refine ifT rfl ⟨_,rfl,rfl,_,rfl,?_⟩
  rw [e2]
  cases y:decide (b=.non) with
  | true=>
   rw [y] at q
   exact ifF rfl (q H (Same.refl H))
  | false=>
   rw [y] at q
   refine ifT rfl ⟨_,rfl,_,rfl,a,b,_,_,rfl,ra,rb,by omega,by omega,fun H1 s1=>⟨_,rfl,q H1 s1⟩⟩
theorem ziV (D:Dfn K mg "goes_left" zcL ["node","low"]) (F_ahead:Fn P w K mg base "ahead" 20 ["one","other"] (zbc 9)) (g_KEY:mg "KEY" =some (.int 0 t1)):Fn P w K mg base "goes_left" 21 ["node","low"] zhf:=by
 refine D.ok (k:=20) zfF (fun vs H Q E h=>?_) (fun f cdv A outer s H vs Q E hr h=>?_)
 ·obtain ⟨v,va,k,w,a,l,r,c,rfl,_⟩:=h;rfl
 obtain ⟨v,va,k,w,a,l,r,c,rfl,rn,ra,hd,q⟩:=h
 obtain ⟨p,vk,vw,rfl,ea,rk,rw'⟩:=zK rn
 refine ⟨_,(zf (zl (zkG (zS zbl (pv 1) zJ (zt _)) (zbo (zw F_ahead hr (by omega) (by rfl) (za (pv 1) (za (zz zH (pv 0) (zv (v:=.int 0) (by rfl) g_KEY ⟨_,rfl⟩) (fun _ _=>rfl)) zb))))))),?_⟩
 refine ⟨_,rfl,rfl,_,rfl,?_⟩
 rw [zb1 ra]
 unfold zad at q
 cases z:decide (a=.non) with
 | true=>
  rw [z] at q
  exact ifT rfl (q H (Same.refl H))
 | false=>
  rw [z] at q
  exact ifF rfl ⟨_,rfl,_,rfl,p,_,_,_,rfl,rfl,SqT.of ea,rfl,a,k,_,_,rfl,ra,rk,by omega,by omega,fun H1 s1=>q H1 s1⟩
theorem ziT (D:Dfn K mg "goes_right" zck ["node","high"]) (F_ahead:Fn P w K mg base "ahead" 20 ["one","other"] (zbc 9)) (g_KEY:mg "KEY" =some (.int 0 t1)):Fn P w K mg base "goes_right" 21 ["node","high"] zgV:=by
 refine D.ok (k:=20) zfe (fun vs H Q E h=>?_) (fun f cdv A outer s H vs Q E hr h=>?_)
 ·obtain ⟨v,va,k,w,a,l,r,c,rfl,_⟩:=h;rfl
 obtain ⟨v,va,k,w,a,l,r,c,rfl,rn,ra,hd,q⟩:=h
 obtain ⟨p,vk,vw,rfl,ea,rk,rw'⟩:=zK rn
 refine ⟨_,(zf (zl (zkG (zS zbl (pv 1) zJ (zt _)) (zbo (zw F_ahead hr (by omega) (by rfl) (za (zz zH (pv 0) (zv (v:=.int 0) (by rfl) g_KEY ⟨_,rfl⟩) (fun _ _=>rfl)) (za (pv 1) zb))))))),?_⟩
 refine ⟨_,rfl,rfl,_,rfl,?_⟩
 rw [zb1 ra]
 unfold zav at q
 cases z:decide (a=.non) with
 | true=>
  rw [z] at q
  exact ifT rfl (q H (Same.refl H))
 | false=>
  rw [z] at q
  exact ifF rfl ⟨_,rfl,p,_,_,_,rfl,rfl,SqT.of ea,rfl,_,rfl,k,a,_,_,rfl,rk,ra,by omega,by omega,fun H1 s1=>q H1 s1⟩
end
end Pv
namespace Pv
open PySem L2
open Tr
abbrev zdM:Stmt:=top 54
theorem zaB:zm ["vault","root","low","high","pairs","begun","count","node"] ["vault","root","low","high"] (zg zdM):=⟨rfl,rfl,rfl,by decide+kernel,rfl,by decide+kernel,by decide+kernel⟩
theorem RepL.unsnoc {H:Hp}{t:Th}:∀{ts:List Th} {vs:List V},RepL H (ts++ [t]) vs→∃us v,vs=us++ [v]∧RepL H ts us∧Rep H t v
 | [],_,.cons h .nil=>⟨[],_,rfl,.nil,h⟩
 | u::ts,_,.cons h r=>by
  obtain ⟨us,v,e,r',h'⟩:=RepL.unsnoc r
  exact ⟨_::us,v,by rw [e];rfl,.cons h r',h'⟩
theorem zaY {t u:TS}{D:L2.Ends}{σ:L2.St}{H:Hp}(Pq:L2.St→Hp→Prop)(a:∀N:L2.St→Hp→Prop,(∀σ H,Pq σ H→N σ H)→t {D with nx:=N} σ H)(rest:∀σ H,Pq σ H→u D σ H):tSeq t u D σ H:=a (u D) rest
structure SI (H0 H:Hp)(pp pb:Addr)(cs:List (Int ×Th))(x y:Th)(all:List (Th ×Th))(S:Tr)(st:List Tr)(out:List (Th ×Th))(m:Nat):Prop where
 sm:Same H0 H
 xs:∃xs,H pp=some (.lst xs)∧RepL H (out.map zab) xs
 bs:∃bs,H pb=some (.lst bs)∧RepL H (st.reverse.map thing) bs
 ok:TOk cs S
 so:Srt S.ps
 on:∀D∈st,TOk cs D∧Srt D.ps∧D≠nil
 eq:out++rng x y S.ps++pend x y st=all
 me:2 * S.cnt+zdu st≤m
 m6:m≤600
theorem SI.same {H0 H H':Hp}{pp pb:Addr}{cs:List (Int ×Th)}{x y:Th}{all:List (Th ×Th)}{S:Tr}{st:List Tr}{out:List (Th ×Th)}{m:Nat}(i:SI H0 H pp pb cs x y all S st out m)(s:Same H H'):SI H0 H' pp pb cs x y all S st out m:=by
 obtain ⟨xs,e1,r1⟩:=i.xs
 obtain ⟨bs,e2,r2⟩:=i.bs
 exact ⟨fun b o e=>s b o (i.sm b o e),⟨xs,s _ _ e1,r1.keep (Same.tups s)⟩,⟨bs,s _ _ e2,r2.keep (Same.tups s)⟩,i.ok,i.so,i.on,i.eq,i.me,i.m6⟩
theorem SI.push {H0 H:Hp}{pp pb:Addr}{cs:List (Int ×Th)}{x y:Th}{all:List (Th ×Th)}{l r:Tr}{k w:Th}{st:List Tr}{out:List (Th ×Th)}{m:Nat}{bs:List V}{v:V}(i:SI H0 H pp pb cs x y all (node l k w r) st out m)(eb:H pb=some (.lst bs))(rb:RepL H (st.reverse.map thing) bs)(rn:Rep H (node l k w r).thing v)(np:pp≠pb)(hb:H0 pb=none):
  SI H0 (upd H pb (.lst (bs++ [v]))) pp pb cs x y all (if zad x k=true then l else nil) (node l k w r::st) out (m - 1):=by
 obtain ⟨xs,e1,r1⟩:=i.xs
 have tk:Tups H (upd H pb (.lst (bs++ [v]))):=Tups.upd fun xs z=>by rw [eb] at z;cases z
 obtain ⟨h1,h2,h3,h4⟩:=ziJ i.so
 have me:=i.me
 have m6:=i.m6
 have hc:=zcm l k w r
 have eq:out++rng x y (l.ps++(k,w)::r.ps)++pend x y st=all:=i.eq
 rw [zgq] at eq
 have hst:zdu (node l k w r::st)=1+2 * r.cnt+zdu st:=rfl
 refine ⟨fun b o e=>by rw [zj (zh e hb)];exact i.sm b o e,⟨xs,by rw [zj np];exact e1,r1.keep tk⟩,⟨_,ze,?_⟩,?_,?_,?_,?_,?_,by omega⟩
 ·rw [List.reverse_cons,List.map_append]
  exact (rb.keep tk).snoc (rn.keep tk)
 ·split
  ·exact i.ok.l
  ·exact TOk.nil
 ·split
  ·exact h1
  ·exact List.Pairwise.nil
 ·intro D hD
  rcases List.mem_cons.mp hD with rfl | hD
  ·exact ⟨i.ok,i.so,fun z=>by cases z⟩
  ·exact i.on D hD
 ·show out++rng x y (if zad x k=true then l else nil).ps++(rng x y ((k,w)::r.ps)++pend x y st)=all
  rw [←eq]
  cases z:zad x k with
  | true=>
   rw [if_pos rfl];simp only [List.append_assoc]
  | false=>
   rw [if_neg Bool.false_ne_true,zhQ z h3]
   show out++ []++_=_
   simp only [List.append_assoc,List.nil_append]
 ·rw [hst]
  split
  ·omega
  ·show 2 * 0+_≤_
   omega
theorem SI.pop {H0 H:Hp}{pp pb:Addr}{cs:List (Int ×Th)}{x y:Th}{all:List (Th ×Th)}{l r:Tr}{k w:Th}{st:List Tr}{out:List (Th ×Th)}{m:Nat}{us:List V}{v:V}(i:SI H0 H pp pb cs x y all nil (node l k w r::st) out m)(eb:H pb=some (.lst (us++ [v])))(rb:RepL H (st.reverse.map thing) us)(np:pp≠pb)(hb:H0 pb=none):
  SI H0 (upd H pb (.lst us)) pp pb cs x y (out++pend x y st) nil st out (m - 1)∧all=out++(rng x y ((k,w)::r.ps)++pend x y st)∧1+2 * r.cnt+zdu st≤m:=by
 obtain ⟨xs,e1,r1⟩:=i.xs
 have tk:Tups H (upd H pb (.lst us)):=Tups.upd fun xs z=>by rw [eb] at z;cases z
 have me:=i.me
 have m6:=i.m6
 have hst:zdu (node l k w r::st)=1+2 * r.cnt+zdu st:=rfl
 rw [hst] at me
 have eq:out++ []++(rng x y ((k,w)::r.ps)++pend x y st)=all:=i.eq
 rw [List.append_nil] at eq
 refine ⟨⟨fun b o e=>by rw [zj (zh e hb)];exact i.sm b o e,⟨xs,by rw [zj np];exact e1,r1.keep tk⟩,⟨_,ze,rb.keep tk⟩,TOk.nil,List.Pairwise.nil,fun D hD=>i.on D (List.mem_cons_of_mem _ hD),?_,by show 2 * 0+_≤_;omega,by omega⟩,eq.symm,by omega⟩
 show out++ []++_=_
 rw [List.append_nil]
def zl3 (C:Addr):Sp:=fun vs H Q _=>∃(a d:Addr) (cs:List (Int ×Th)) (T:Tr) (x y:Th) (vx vy:V),vs=[.ref a,.int T.root,vx,vy]∧VS H C a d cs∧TOk cs T∧Srt T.ps∧Rep H x vx∧dep x≤3∧Rep H y vy∧
 ∀p xs H',Same H H'→H p=none→H' p=some (.lst xs)→RepL H' ((rng x y T.ps).map zab) xs→Q (.ref p) H'
section
variable {P:Program}{w:World}{K:PySem.W.Frag}{mg:Str→Option Value}{base:Heap}{C CC:Addr}{x:Str}{t1 t2 t3 t4 t5 t6 t7:Tok}
end
end Pv
namespace Pv
open PySem L2
open Tr
def Abv:Tr→Prop
 | nil=>True
 | node l k _ r=>(∀p∈l.ps,zaM k p.1=true)∧(∀p∈r.ps,zaM k p.1=true)∧Abv l∧Abv r
theorem zR {l r:Tr}{k w:Th}{p:Th ×Th}:p∈(node l k w r).ps↔p∈l.ps∨p=(k,w)∨p∈r.ps:=by
 show p∈l.ps++(k,w)::r.ps↔_
 rw [List.mem_append,List.mem_cons]
theorem Abv.top {l r:Tr}{k w:Th}(h:Abv (node l k w r)){p:Th ×Th}(hp:p∈(node l k w r).ps):p.1=k∨zaM k p.1=true:=by
 rcases zR.mp hp with hp | hp | hp
 ·exact .inr (h.1 p hp)
 ·rw [hp];exact .inl rfl
 ·exact .inr (h.2.1 p hp)
theorem Abv.kid {x:Th}{T:Tr}(h:Abv T):Abv (T.kid x):=by
 cases T with
 | nil=>exact trivial
 | node l k w r=>
  show Abv (if zu k x=true then r else l)
  split
  ·exact h.2.2.2
  ·exact h.2.2.1
theorem Abv.down {x:Th}:∀{n:Nat} {T:Tr},Abv T→Abv (down x n T)
 | 0,_,h=>h
 | n+1,_,h=>Abv.down (n:=n) h.kid
theorem zbN {x:Th}:∀{n:Nat} {T:Tr} {p:Th ×Th},(p∈(spl x n T).1.ps∨p∈(spl x n T).2.ps)→p∈T.ps
 | 0,T,p,h=>by
  rcases h with h | h
  ·exact h
  ·cases h
 | n+1,nil,p,h=>by rcases h with h | h <;> cases h
 | n+1,node l k w r,p,h=>by
  have h':p∈(if zu k x=true then (node l k w (spl x n r).1,(spl x n r).2) else ((spl x n l).1,node (spl x n l).2 k w r)).1.ps∨p∈(if zu k x=true then (node l k w (spl x n r).1,(spl x n r).2) else ((spl x n l).1,node (spl x n l).2 k w r)).2.ps:=h
  by_cases c:zu k x=true
  ·rw [if_pos c] at h'
   rcases h' with h' | h'
   ·rcases zR.mp h' with h' | h' | h'
    ·exact zR.mpr (.inl h')
    ·exact zR.mpr (.inr (.inl h'))
    ·exact zR.mpr (.inr (.inr (zbN (.inl h'))))
   ·exact zR.mpr (.inr (.inr (zbN (.inr h'))))
  ·rw [if_neg c] at h'
   rcases h' with h' | h'
   ·exact zR.mpr (.inl (zbN (.inl h')))
   ·rcases zR.mp h' with h' | h' | h'
    ·exact zR.mpr (.inl (zbN (.inr h')))
    ·exact zR.mpr (.inr (.inl h'))
    ·exact zR.mpr (.inr (.inr h'))
theorem Abv.spl {x:Th}:∀{n:Nat} {T:Tr},Abv T→Abv (Tr.spl x n T).1∧Abv (Tr.spl x n T).2
 | 0,T,h=>⟨h,trivial⟩
 | n+1,nil,_=>⟨trivial,trivial⟩
 | n+1,node l k w r,h=>by
  show Abv (if zu k x=true then (node l k w (Tr.spl x n r).1,(Tr.spl x n r).2) else ((Tr.spl x n l).1,node (Tr.spl x n l).2 k w r)).1∧Abv (if zu k x=true then (node l k w (Tr.spl x n r).1,(Tr.spl x n r).2) else ((Tr.spl x n l).1,node (Tr.spl x n l).2 k w r)).2
  by_cases c:zu k x=true
  ·rw [if_pos c]
   obtain ⟨i1,i2⟩:=Abv.spl (x:=x) (n:=n) h.2.2.2
   exact ⟨⟨h.1,fun p hp=>h.2.1 p (zbN (.inl hp)),h.2.2.1,i1⟩,i2⟩
  ·rw [if_neg c]
   obtain ⟨i1,i2⟩:=Abv.spl (x:=x) (n:=n) h.2.2.1
   exact ⟨i1,⟨fun p hp=>h.1 p (zbN (.inr hp)),h.2.1,i2,h.2.2.2⟩⟩
def Over (x:Th):Nat→Tr→Tr→Prop
 | 0,_,_=>True
 | _+1,nil,_=>True
 | n+1,node l k _ r,S=>(∀p∈S.ps,zaM k p.1=true)∧Over x n (if zu k x=true then r else l) S
theorem zcS {x:Th}:∀{n:Nat} {T S:Tr} {p:Th ×Th},p∈(plug x n T S).ps→p∈T.ps∨p∈S.ps
 | 0,_,_,_,h=>.inr h
 | n+1,nil,_,_,h=>by cases h
 | n+1,node l k w r,S,p,h=>by
  have h':p∈(if zu k x=true then node l k w (plug x n r S) else node (plug x n l S) k w r).ps:=h
  by_cases c:zu k x=true
  ·rw [if_pos c] at h'
   rcases zR.mp h' with h' | h' | h'
   ·exact .inl (zR.mpr (.inl h'))
   ·exact .inl (zR.mpr (.inr (.inl h')))
   ·rcases zcS h' with h' | h'
    ·exact .inl (zR.mpr (.inr (.inr h')))
    ·exact .inr h'
  ·rw [if_neg c] at h'
   rcases zR.mp h' with h' | h' | h'
   ·rcases zcS h' with h' | h'
    ·exact .inl (zR.mpr (.inl h'))
    ·exact .inr h'
   ·exact .inl (zR.mpr (.inr (.inl h')))
   ·exact .inl (zR.mpr (.inr (.inr h')))
theorem Abv.plug {x:Th}:∀{n:Nat} {T S:Tr},Abv T→Abv S→Over x n T S→Abv (Tr.plug x n T S)
 | 0,_,_,_,h,_=>h
 | n+1,nil,_,_,_,_=>trivial
 | n+1,node l k w r,S,h,hS,ho=>by
  show Abv (if zu k x=true then node l k w (Tr.plug x n r S) else node (Tr.plug x n l S) k w r)
  obtain ⟨o1,o2⟩:=ho
  by_cases c:zu k x=true
  ·rw [if_pos c] at o2 ⊢
   refine ⟨h.1,fun p hp=>?_,h.2.2.1,Abv.plug h.2.2.2 hS o2⟩
   rcases zcS hp with hp | hp
   ·exact h.2.1 p hp
   ·exact o1 p hp
  ·rw [if_neg c] at o2 ⊢
   refine ⟨fun p hp=>?_,h.2.1,Abv.plug h.2.2.1 hS o2,h.2.2.2⟩
   rcases zcS hp with hp | hp
   ·exact h.1 p hp
   ·exact o1 p hp
def Tr.joinT:Tr→Tr→Tr
 | nil,R=>R
 | node l k w r,nil=>node l k w r
 | node l k w r,node l' k' w' r'=>if zaM k k'=true then node l k w (joinT r (node l' k' w' r')) else node (joinT (node l k w r) l') k' w' r'
 termination_by L R=>sizeOf L+sizeOf R
theorem zfb:∀(L R:Tr),(joinT L R).ps=L.ps++R.ps
 | nil,R=>by rw [joinT];rfl
 | node l k w r,nil=>by rw [joinT];exact (List.append_nil _).symm
 | node l k w r,node l' k' w' r'=>by
  rw [joinT]
  by_cases c:zaM k k'=true
  ·rw [if_pos c]
   show l.ps++(k,w)::(joinT r (node l' k' w' r')).ps=(l.ps++(k,w)::r.ps)++_
   rw [zfb r (node l' k' w' r')]
   simp
  ·rw [if_neg c]
   show (joinT (node l k w r) l').ps++(k',w')::r'.ps=_++(l'.ps++(k',w')::r'.ps)
   rw [zfb (node l k w r) l']
   simp
 termination_by L R=>sizeOf L+sizeOf R
def Tr.cutT (x:Th)(T:Tr):Tr:=
 match own x T with
 | nil=>T
 | node l _ _ r=>plug x (wl x T - 1) T (joinT l r)
def offP (ps:List (Th ×Th))(x:Th):List (Th ×Th):=ps.filter fun p=>!eqT p.1 x
end Pv
namespace Pv
open PySem L2
open Tr
abbrev zj0:Stmt:=top 64
abbrev scut:Stmt:=top 63
theorem zk4:zm ["vault","root","key","way","own"] ["vault","root","key"] (zg scut):=⟨rfl,rfl,rfl,by decide+kernel,rfl,by decide+kernel,by decide+kernel⟩
abbrev Stp:=Tr ×Bool ×Nat
def zmU (s:Stp):Th:=.tup [s.1.thing,.int (if s.2.1=true then 3 else 2),.int (s.2.2:Int)]
def app:Stp→Tr→Tr
 | (nil,_,_),X=>X
 | (node l k w r,b,_),X=>if b=true then node l k w X else node X k w r
inductive zcb (L0 R0:Tr):List Stp→Tr→Tr→Prop
 | base:zcb L0 R0 [] L0 R0
 | left {st:List Stp} {l r l' r':Tr} {k w k' w':Th} (h:zcb L0 R0 st (node l k w r) (node l' k' w' r')) (c:zaM k k'=true):zcb L0 R0 ((node l k w r,true,(node l k w r).cnt+(node l' k' w' r').cnt)::st) r (node l' k' w' r')
 | right {st:List Stp} {l r l' r':Tr} {k w k' w':Th} (h:zcb L0 R0 st (node l k w r) (node l' k' w' r')) (c:zaM k k'=false):zcb L0 R0 ((node l' k' w' r',false,(node l k w r).cnt+(node l' k' w' r').cnt)::st) (node l k w r) l'
theorem zfJ (L R:Tr):(joinT L R).cnt=L.cnt+R.cnt:=by
 show (joinT L R).ps.length=_
 rw [zfb,List.length_append]
theorem zcb.back {L0 R0 L R:Tr}{s:Stp}{st:List Stp}(h:zcb L0 R0 (s::st) L R):∃L' R',zcb L0 R0 st L' R'∧joinT L' R'=app s (joinT L R)∧s.2.2=(joinT L' R').cnt∧(s.1=L'∨s.1=R'):=by
 cases h with
 | left h c=>
  refine ⟨_,_,h,?_,(zfJ _ _).symm,.inl rfl⟩
  rw [joinT,if_pos c];rfl
 | right h c=>
  refine ⟨_,_,h,?_,(zfJ _ _).symm,.inr rfl⟩
  rw [joinT,if_neg (by rw [c];exact Bool.false_ne_true)];rfl
theorem zcb.cnt {L0 R0 L R:Tr}{st:List Stp}(h:zcb L0 R0 st L R):L.cnt+R.cnt≤L0.cnt+R0.cnt:=by
 induction h with
 | base=>exact Nat.le_refl _
 | left h c ih=>rw [zcm] at ih;omega
 | right h c ih=>
  rename_i l r l' r' k w k' w'
  have:=zcm l' k' w' r'
  omega
theorem zcb.end {L0 R0 L R:Tr}(h:zcb L0 R0 [] L R):L=L0∧R=R0:=by cases h;exact ⟨rfl,rfl⟩
def zmO:Sp:=fun vs H Q _=>∃(v:V) (k w:Th) (b:Bool) (l r c n m:Int),vs=[v,.int (if b=true then 3 else 2),.int n,.int m]∧Rep H (zau k w l r c) v∧∀p H',Same H H'→Rep H' (if b=true then zau k w l n m else zau k w n r m) (.ref p)→Q (.ref p) H'
def zm3 (C CC:Addr):Sp:=fun vs H Q E=>∃(a d:Addr) (cs:List (Int ×Th)) (T:Tr) (x:Th) (vx:V),vs=[.ref a,.int T.root,vx]∧VS H C a d cs∧TOk cs T∧Rep H x vx∧KeyT x∧cs.length≤900000∧Cl CC E∧
 ∀cs' p H',Fr1 d H H'→VS H' C a d cs'→Sub cs cs'→(spl x (wl x T) T).1.InV cs'→(spl x (wl x T) T).2.InV cs'→cs'.length≤cs.length+300→H' p=some (.tup [.int (spl x (wl x T) T).1.root,.int (spl x (wl x T) T).2.root])→Q (.ref p) H'
def zmm (C CC:Addr):Sp:=fun vs H Q E=>∃(a d:Addr) (cs:List (Int ×Th)) (L R:Tr) (c:Int),vs=[.ref a,.int L.root,.int R.root,.int c]∧VS H C a d cs∧TOk cs L∧TOk cs R∧(L.cnt:Int) < c∧(R.cnt:Int) < c∧L.cnt+R.cnt≤300∧cs.length≤900000∧Cl CC E∧
 ∀cs' H',Fr1 d H H'→VS H' C a d cs'→Sub cs cs'→(joinT L R).InV cs'→cs'.length≤cs.length+300→Q (.int (joinT L R).root) H'
def zmZ (C CC:Addr):Sp:=fun vs H Q E=>∃(a d:Addr) (cs:List (Int ×Th)) (L R:Tr),vs=[.ref a,.int L.root,.int R.root]∧VS H C a d cs∧TOk cs L∧TOk cs R∧L.cnt+R.cnt≤300∧cs.length≤900000∧Cl CC E∧
 ∀cs' H',Fr1 d H H'→VS H' C a d cs'→Sub cs cs'→(joinT L R).InV cs'→cs'.length≤cs.length+300→Q (.int (joinT L R).root) H'
def znp (C CC:Addr):Sp:=fun vs H Q E=>∃(a d:Addr) (cs:List (Int ×Th)) (T:Tr) (x:Th) (vx:V),vs=[.ref a,.int T.root,vx]∧VS H C a d cs∧TOk cs T∧Rep H x vx∧KeyT x∧cs.length≤800000∧Cl CC E∧
 ∀cs' H',Fr1 d H H'→VS H' C a d cs'→Sub cs cs'→(cutT x T).InV cs'→cs'.length≤cs.length+600→Q (.int (cutT x T).root) H'
section
variable {P:Program}{w:World}{K:PySem.W.Frag}{mg:Str→Option Value}{base:Heap}{C CC:Addr}{x:Str}{t1 t2 t3 t4 t5 t6 t7:Tok}
end
end Pv
namespace Pv
open PySem L2
abbrev zgf:Stmt:=top 49
theorem zgK:zm ["vault","root","key","way"] ["vault","root","key"] (zg zgf):=⟨rfl,rfl,rfl,by decide+kernel,rfl,by decide+kernel,by decide+kernel⟩
structure Nd where
 k:Th
 w:Th
 l:Int
 r:Int
 c:Int
abbrev Nd.th (n:Nd):Th:=zau n.k n.w n.l n.r n.c
def isW:Th→Bool
 | .int _=>true
 | _=>false
def isR:Th→Bool
 | .int i=>decide (0≤i)
 | _=>false
def zfM:Th→Bool
 | .int i=>decide (1≤i) && decide (i≤300)
 | _=>false
def isN:Th→Bool
 | .tup [k,w,l,r,c]=>!decide (k=.non) && (!decide (w=.non) && (isR l && (isR r && zfM c)))
 | _=>false
def ndOf:Th→Option Nd
 | .tup [k,w,.int l,.int r,.int c]=>if isN (.tup [k,w,.int l,.int r,.int c])=true then some ⟨k,w,l,r,c⟩ else none
 | _=>none
def ben (cs:List (Int ×Th))(n m:Int):Except Bool Nd:=
 match zC cs n with
 | none=>.error false
 | some t=>match ndOf t with
  | none=>.error true
  | some nd=>if nd.c < m then .ok nd else .error true
def zV (cs:List (Int ×Th))(n m:Int):Except Bool Int:=if n=0 then .ok 0 else (ben cs n m).map Nd.c
theorem zhp {ts:List Th}(h:ts.length≠5):isN (.tup ts)=false:=by
 match ts,h with
 | [],_=>rfl
 | [_],_=>rfl
 | [_,_],_=>rfl
 | [_,_,_],_=>rfl
 | [_,_,_,_],_=>rfl
 | [_,_,_,_,_],h=>exact absurd rfl h
 | _::_::_::_::_::_::_,_=>rfl
theorem zlT {nd:Nd}(h:NodeOk nd.k nd.w nd.l nd.r nd.c):isN nd.th=true:=by
 show (!decide (nd.k=.non) && (!decide (nd.w=.non) && (decide (0≤nd.l) && (decide (0≤nd.r) && (decide (1≤nd.c) && decide (nd.c≤300))))))=true
 rw [decide_eq_false h.k0,decide_eq_false h.w0,decide_eq_true h.l0,decide_eq_true h.r0,decide_eq_true h.c1,decide_eq_true h.c2]
 rfl
theorem zjB {nd:Nd}(h:isN nd.th=true):NodeOk nd.k nd.w nd.l nd.r nd.c:=by
 have h':(!decide (nd.k=.non) && (!decide (nd.w=.non) && (decide (0≤nd.l) && (decide (0≤nd.r) && (decide (1≤nd.c) && decide (nd.c≤300))))))=true:=h
 simp only [Bool.and_eq_true,Bool.not_eq_true',decide_eq_false_iff_not,decide_eq_true_eq] at h'
 obtain ⟨a,b,c,d,e,f⟩:=h'
 exact ⟨a,b,c,d,e,f⟩
theorem zj3 {nd:Nd}(h:isN nd.th=true):ndOf nd.th=some nd:=by
 show (if isN nd.th=true then some nd else none)=some nd
 rw [if_pos h]
theorem zg3 {t:Th}(h:isR t=true):∃i,t=.int i:=by
 cases t with
 | int i=>exact ⟨i,rfl⟩
 | non=>cases h
 | str x=>cases h
 | tup ts=>cases h
theorem zlO {t:Th}(h:isN t=true):∃nd:Nd,t=nd.th:=by
 cases t with
 | non=>cases h
 | int i=>cases h
 | str x=>cases h
 | tup ts=>
  by_cases hl:ts.length=5
  ·match ts,hl,h with
   | [k,w,l,r,c],_,h=>
    have h':(!decide (k=.non) && (!decide (w=.non) && (isR l && (isR r && zfM c))))=true:=h
    simp only [Bool.and_eq_true] at h'
    obtain ⟨_,_,h3,h4,h5⟩:=h'
    obtain ⟨l',rfl⟩:=zg3 h3
    obtain ⟨r',rfl⟩:=zg3 h4
    cases c with
    | int c'=>exact ⟨⟨k,w,l',r',c'⟩,rfl⟩
    | non=>cases h5
    | str x=>cases h5
    | tup ts=>cases h5
  ·rw [zhp hl] at h;cases h
theorem zeB {t:Th}{nd:Nd}(h:ndOf t=some nd):t=nd.th∧isN t=true:=by
 unfold ndOf at h
 split at h
 ·rename_i k w l r c
  split at h
  ·rename_i z
   cases h
   exact ⟨rfl,z⟩
  ·cases h
 ·cases h
theorem zbV {cs:List (Int ×Th)}{n m:Int}{nd:Nd}(e:zC cs n=some nd.th)(h:NodeOk nd.k nd.w nd.l nd.r nd.c)(hm:nd.c < m):ben cs n m=.ok nd:=by
 unfold ben
 rw [e]
 show (match ndOf nd.th with | none=>_ | some nd=>_)=_
 rw [zj3 (zlT h)]
 show (if nd.c < m then _ else _)=_
 rw [if_pos hm]
theorem zld {cs:List (Int ×Th)}{n m:Int}(e:zC cs n=none):ben cs n m=.error false:=by
 unfold ben
 rw [e]
def BadB (m:Int)(t:Th):Prop:=∀nd:Nd,t=nd.th→isN t=true→m≤nd.c
theorem zdH {cs:List (Int ×Th)}{n m:Int}{t:Th}(e:zC cs n=some t)(h:BadB m t):ben cs n m=.error true:=by
 unfold ben
 rw [e]
 show (match ndOf t with | none=>_ | some nd=>_)=_
 cases z:ndOf t with
 | none=>rfl
 | some nd=>
  obtain ⟨a,b⟩:=zeB z
  have:=h nd a b
  show (if nd.c < m then _ else _)=_
  rw [if_neg (by omega)]
theorem zkz {cs:List (Int ×Th)}{n m:Int}{nd:Nd}(h:ben cs n m=.ok nd):zC cs n=some nd.th∧NodeOk nd.k nd.w nd.l nd.r nd.c∧nd.c < m:=by
 unfold ben at h
 cases z:zC cs n with
 | none=>rw [z] at h;cases h
 | some t=>
  rw [z] at h
  cases y:ndOf t with
  | none=>
   have h':(match ndOf t with | none=>Except.error true | some nd=>if nd.c < m then .ok nd else .error true)=Except.ok nd:=h
   rw [y] at h'
   cases h'
  | some nd'=>
   have h':(match ndOf t with | none=>Except.error true | some nd=>if nd.c < m then .ok nd else .error true)=Except.ok nd:=h
   rw [y] at h'
   have h2:(if nd'.c < m then Except.ok nd' else .error true)=Except.ok nd:=h'
   by_cases x:nd'.c < m
   ·rw [if_pos x] at h2
    cases h2
    obtain ⟨a,b⟩:=zeB y
    subst a
    exact ⟨rfl,zjB b,x⟩
   ·rw [if_neg x] at h2;cases h2
def exA (CN CB:Addr)(b:Bool):Addr:=if b=true then CB else CN
def zd9:Sp:=fun vs H Q _=>∃(t:Th) (v:V),vs=[v]∧Rep H t v∧Q (.bl (isW t)) H
def zhj:Sp:=fun vs H Q _=>∃(t:Th) (v:V),vs=[v]∧Rep H t v∧Q (.bl (isR t)) H
def zkM:Sp:=fun vs H Q _=>∃(t:Th) (v:V),vs=[v]∧Rep H t v∧Q (.bl (isN t)) H
def zfm (C CN:Addr):Sp:=fun vs H Q E=>∃(a d:Addr) (cs:List (Int ×Th)) (n:Int),vs=[.ref a,.int n]∧VS H C a d cs∧(∀t v,zC cs n=some t→Rep H t v→Q v H)∧(zC cs n=none→E (.ref CN) none H)
def zeu (C CN CB:Addr):Sp:=fun vs H Q E=>∃(a d:Addr) (cs:List (Int ×Th)) (n m:Int),vs=[.ref a,.int n,.int m]∧VS H C a d cs∧(∀nd v,ben cs n m=.ok nd→Rep H nd.th v→Q v H)∧(∀b,ben cs n m=.error b→E (.ref (exA CN CB b)) none H)
def znq (C CN CB:Addr):Sp:=fun vs H Q E=>∃(a d:Addr) (cs:List (Int ×Th)) (n:Int),vs=[.ref a,.int n]∧VS H C a d cs∧(∀nd v,ben cs n 301=.ok nd→Rep H nd.th v→Q v H)∧(∀b,ben cs n 301=.error b→E (.ref (exA CN CB b)) none H)
def zcw (C CN CB:Addr):Sp:=fun vs H Q E=>∃(a d:Addr) (cs:List (Int ×Th)) (n m:Int),vs=[.ref a,.int n,.int m]∧VS H C a d cs∧(∀c,zV cs n m=.ok c→Q (.int c) H)∧(∀b,zV cs n m=.error b→E (.ref (exA CN CB b)) none H)
def zhd (C CN CB:Addr):Sp:=fun vs H Q E=>∃(a d:Addr) (cs:List (Int ×Th)) (n:Int),vs=[.ref a,.int n]∧VS H C a d cs∧(∀c,zV cs n 301=.ok c→Q (.int c) H)∧(∀b,zV cs n 301=.error b→E (.ref (exA CN CB b)) none H)
def zi6 (C CN CB:Addr):Sp:=fun vs H Q E=>∃(a d:Addr) (cs:List (Int ×Th)) (nd:Nd) (v:V),vs=[.ref a,v]∧VS H C a d cs∧Rep H nd.th v∧
 (∀b,zV cs nd.l nd.c=.error b→E (.ref (exA CN CB b)) none H)∧(∀x b,zV cs nd.l nd.c=.ok x→zV cs nd.r nd.c=.error b→E (.ref (exA CN CB b)) none H)∧
 ∀x y,zV cs nd.l nd.c=.ok x→zV cs nd.r nd.c=.ok y→(x+y+1≠nd.c→E (.ref CB) none H)∧(x+y+1=nd.c→Q .non H)
section
variable {P:Program}{w:World}{K:PySem.W.Frag}{mg:Str→Option Value}{base:Heap}{C CC CN CB:Addr}{x:Str}{t1 t2 t3 t4 t5 t6 t7:Tok}
theorem zhE (M:Mt P w K mg base (CX1 P w) C "thing" 1 ["self","number"] (zfS C CN)):Mt P w K mg base (CX1 P w) C "thing" 1 ["self","number"] (zfm C CN):=Mt.imp M fun vs H Q E h=>by
 obtain ⟨a,d,cs,n,rfl,vs,q,qe⟩:=h
 obtain ⟨kv,vo,dr⟩:=vs.vo
 refine ⟨a,d,kv,n,rfl,vo,fun v ev=>?_,fun ev=>qe ?_⟩
 ·obtain ⟨t,e1,rv⟩:=dr.back ev
  exact q t v e1 rv
 ·cases z:zC cs n with
  | none=>rfl
  | some t=>
   obtain ⟨y,ey,_⟩:=dr.some z
   rw [ev] at ey;cases ey
theorem zhH (D:Dfn K mg "is_whole" zcA ["value"]) (m_isinstance:mg "isinstance" =none) (m_int:mg "int" =none) (m_bool:mg "bool" =none):Fn P w K mg base "is_whole" 1 ["value"] zd9:=by
 refine D.ok (k:=0) zer (fun vs H Q E h=>?_) (fun f cdv A outer s H vs Q E hr h=>?_)
 ·obtain ⟨t,v,rfl,_⟩:=h;rfl
 obtain ⟨t,v,rfl,rt,q⟩:=h
 refine ⟨_,(zf (zl (zbz (zF (zU) (by rfl) m_isinstance (by rfl) (za (pv 0) (za (zaz (v:=.ty "int") (by rfl) m_int (by rfl) rfl) zb))) (zbo (ze2 (zF (zU) (by rfl) m_isinstance (by rfl) (za (pv 0) (za (zaz (v:=.ty "bool") (by rfl) m_bool (by rfl) rfl) zb)))))))),?_⟩
 cases rt with
 | non=>exact ⟨_,rfl,_,_,_,_,rfl,.non,rfl,_,rfl,ifF rfl q⟩
 | int i=>
  refine ⟨_,rfl,_,_,_,_,rfl,.int i,rfl,_,rfl,ifT rfl ?_⟩
  exact ⟨_,rfl,_,_,_,_,rfl,.int i,rfl,_,rfl,q⟩
 | str x=>exact ⟨_,rfl,_,_,_,_,rfl,.str x,rfl,_,rfl,ifF rfl q⟩
 | tup e l h=>exact ⟨_,rfl,_,_,_,_,rfl,.tup e,rfl,_,rfl,ifF rfl q⟩
theorem zjF (D:Dfn K mg "is_root" zd8 ["thing"]) (F_is_whole:Fn P w K mg base "is_whole" 1 ["value"] zd9):Fn P w K mg base "is_root" 2 ["thing"] zhj:=by
 refine D.ok (k:=1) zhN (fun vs H Q E h=>?_) (fun f cdv A outer s H vs Q E hr h=>?_)
 ·obtain ⟨t,v,rfl,_⟩:=h;rfl
 obtain ⟨t,v,rfl,rt,q⟩:=h
 refine ⟨_,(zf (zl (zbz (zw F_is_whole hr (by omega) (by rfl) (za (pv 0) zb)) (zbo (zS zjr (pv 0) zd (zt _)))))),?_⟩
 refine ⟨_,rfl,t,v,rfl,rt,_,rfl,?_⟩
 cases rt with
 | non=>exact ifF rfl q
 | int i=>exact ifT rfl ⟨_,rfl,_,_,rfl,rfl,q⟩
 | str x=>exact ifF rfl q
 | tup e l h=>exact ifF rfl q
theorem zhY (D:Dfn K mg "is_node" zd5 ["thing"]) (F_is_root:Fn P w K mg base "is_root" 2 ["thing"] zhj) (F_is_whole:Fn P w K mg base "is_whole" 1 ["value"] zd9) (m_isinstance:mg "isinstance" =none) (m_tuple:mg "tuple" =none) (m_len:mg "len" =none)
  (g_KEY:mg "KEY" =some (.int 0 t1)) (g_WORTH:mg "WORTH" =some (.int 1 t2)) (g_LEFT:mg "LEFT" =some (.int 2 t3)) (g_RIGHT:mg "RIGHT" =some (.int 3 t4)) (g_COUNT:mg "COUNT" =some (.int 4 t5)) (g_MOST_NODES:mg "MOST_NODES" =some (.int 300 t6)):
  Fn P w K mg base "is_node" 3 ["thing"] zkM:=by
 refine D.ok (k:=2) zhR (fun vs H Q E h=>?_) (fun f cdv A outer s H vs Q E hr h=>?_)
 ·obtain ⟨t,v,rfl,_⟩:=h;rfl
 obtain ⟨t,v,rfl,rt,q⟩:=h
 refine ⟨_,(zc (zD (PW.pt (zcE (zbg (zQ (zF (zU) (by rfl) m_isinstance (by rfl) (za (pv 0) (za (zaz (v:=.ty "tuple") (by rfl) m_tuple (by rfl) rfl) zb))))) (zbJ (zx zdA (zF (z8) (by rfl) m_len (by rfl) (za (pv 0) zb)) zd (zt _)))))
 (zf (zl zal))
 zr)
 (zc (zD (PW.pt (zcE (zx zbl (zz zH (pv 0) (zv (v:=.int 0) (by rfl) g_KEY ⟨_,rfl⟩) (fun _ _=>rfl)) zJ (zt _)) (zbJ (zx zbl (zz zH (pv 0) (zv (v:=.int 1) (by rfl) g_WORTH ⟨_,rfl⟩) (fun _ _=>rfl)) zJ (zt _)))))
 (zf (zl zal))
 zr)
 (zc (zD (PW.pt (zcE (zbg (zQ (zw F_is_root hr (by omega) (by rfl) (za (zz zH (pv 0) (zv (v:=.int 2) (by rfl) g_LEFT ⟨_,rfl⟩) (fun _ _=>rfl)) zb)))) (zbJ (zbg (zQ (zw F_is_root hr (by omega) (by rfl) (za (zz zH (pv 0) (zv (v:=.int 3) (by rfl) g_RIGHT ⟨_,rfl⟩) (fun _ _=>rfl)) zb)))))))
 (zf (zl zal))
 zr)
 (zf (zl (zbz (zw F_is_whole hr (by omega) (by rfl) (za (zz zH (pv 0) (zv (v:=.int 4) (by rfl) g_COUNT ⟨_,rfl⟩) (fun _ _=>rfl)) zb)) (zbo (ziS zgQ zgQ zd (zz zH (pv 0) (zv (v:=.int 4) (by rfl) g_COUNT ⟨_,rfl⟩) (fun _ _=>rfl)) (zv (v:=.int 300) (by rfl) g_MOST_NODES ⟨_,rfl⟩))))))))),?_⟩
 cases rt with
 | non=>exact ⟨_,rfl,_,_,_,_,rfl,.non,rfl,_,rfl,ifT rfl (ifT rfl q)⟩
 | int i=>exact ⟨_,rfl,_,_,_,_,rfl,.int i,rfl,_,rfl,ifT rfl (ifT rfl q)⟩
 | str x=>exact ⟨_,rfl,_,_,_,_,rfl,.str x,rfl,_,rfl,ifT rfl (ifT rfl q)⟩
 | @tup a xs ts ea l0 h0=>
  refine ⟨_,rfl,_,_,_,_,rfl,.tup ea,rfl,_,rfl,ifF rfl ?_⟩
  refine ⟨_,rfl,a,_,rfl,.inr (SqT.of ea),rfl,_,rfl,?_⟩
  rw [zan]
  by_cases hl:ts.length=5
  ·have rep:Rep H (.tup ts) (.ref a):=.tup ea l0 h0
   match ts,hl,rep,q with
   | [k,wo,l,r,c],_,rep,q=>
   obtain ⟨a',xs',e,ea',r1⟩:=rep.list
   cases e
   rw [ea] at ea'
   cases ea'
   cases r1 with
   | cons rk r2=>
   cases r2 with
   | cons rw' r3=>
   cases r3 with
   | cons rl r4=>
   cases r4 with
   | cons rr r5=>
   cases r5 with
   | cons rc r6=>
   cases r6 with
   | nil=>
   refine ifF (by rfl) ?_
   rename_i vk vw vl vr vc
   have et:SqT K H a [vk,vw,vl,vr,vc]:=SqT.of ea
   have q':Q (.bl (!decide (k=.non) && (!decide (wo=.non) && (isR l && (isR r && zfM c))))) H:=q
   refine ⟨_,rfl,a,_,_,_,rfl,rfl,et,rfl,rfl,_,rfl,?_⟩
   rw [zb1 rk]
   cases z1:decide (k=.non) with
   | true=>rw [z1] at q';exact ifT rfl (ifT rfl q')
   | false=>
   rw [z1] at q'
   refine ifF rfl ?_
   refine ⟨_,rfl,a,_,_,_,rfl,rfl,et,rfl,rfl,_,rfl,?_⟩
   rw [zb1 rw']
   cases z2:decide (wo=.non) with
   | true=>rw [z2] at q';exact ifT rfl q'
   | false=>
   rw [z2] at q'
   refine ifF rfl ?_
   refine ⟨_,rfl,a,_,_,_,rfl,rfl,et,rfl,l,_,rfl,rl,_,rfl,?_⟩
   cases z3:isR l with
   | false=>rw [z3] at q';exact ifT rfl (ifT rfl q')
   | true=>
   rw [z3] at q'
   refine ifF rfl ?_
   refine ⟨_,rfl,a,_,_,_,rfl,rfl,et,rfl,r,_,rfl,rr,_,rfl,?_⟩
   cases z4:isR r with
   | false=>rw [z4] at q';exact ifT rfl q'
   | true=>
   rw [z4] at q'
   refine ifF rfl ?_
   refine ⟨_,rfl,a,_,_,_,rfl,rfl,et,rfl,c,_,rfl,rc,_,rfl,?_⟩
   cases rc with
   | non=>exact ifF rfl q'
   | str x=>exact ifF rfl q'
   | tup e l h=>exact ifF rfl q'
   | int i=>
    refine ifT rfl ?_
    refine ⟨_,rfl,a,_,_,_,rfl,rfl,et,rfl,_,_,rfl,rfl,_,rfl,?_⟩
    have q2:Q (.bl (decide (1≤i) && decide (i≤300))) H:=q'
    cases z5:decide (1≤i) with
    | false=>rw [z5] at q2;exact ifF rfl q2
    | true=>rw [z5] at q2;exact ifT rfl ⟨_,_,rfl,rfl,q2⟩
  ·rw [zhp hl] at q
   refine ifT (by rw [l0];rw [decide_eq_false (show¬((ts.length:Nat):Int)=5 by omega)];rfl) q
end
end Pv
namespace Pv
open PySem L2
theorem zeZ {t:Th}{m:Int}(h:isN t=false):BadB m t:=fun nd _ z=>by rw [h] at z;cases z
theorem zed {cs:List (Int ×Th)}{n m:Int}(h:n≠0):zV cs n m=(ben cs n m).map Nd.c:=if_neg h
section
variable {P:Program}{w:World}{K:PySem.W.Frag}{mg:Str→Option Value}{base:Heap}{C CC CN CB:Addr}{x:Str}{t1 t2 t3 t4 t5 t6 t7:Tok}
theorem zjS (D:Dfn K mg "node_beneath" zbD ["vault","root","count"]) (M_thing:Mt P w K mg base (CX1 P w) C "thing" 1 ["self","number"] (zfm C CN)) (c_K:Cls K C) (F_is_node:Fn P w K mg base "is_node" 3 ["thing"] zkM) (X_BadThing:XP K mg "BadThing" CB) (g_COUNT:mg "COUNT" =some (.int 4 t5)):
  FnX P w K mg base "node_beneath" 4 ["vault","root","count"] (zeu C CN CB):=by
 refine D.okX (k:=3) zcs (fun vs H Q E h=>?_) (fun f cdv A outer s H vs Q E hr h=>?_)
 ·obtain ⟨a,d,cs,n,m,rfl,_⟩:=h;rfl
 obtain ⟨a,d,cs,n,m,rfl,vs,q,qe⟩:=h
 obtain ⟨kv,vo,_⟩:=vs.vo
 obtain ⟨⟨dx,fs,eo,fl⟩,ed⟩:=id vo
 refine ⟨_,(zc (zq (i:=3) zcs.nd rfl (Or.inl rfl) (zhi (pv 0) c_K M_thing hr (by omega) zE (za (pv 1) zb)))
 (zc (zD (PW.pt (zcE (zbg (zQ (zw F_is_node hr (by omega) (by rfl) (za (pv 3) zb)))) (zbJ (zx zjr (zz zH (pv 3) (zv (v:=.int 4) (by rfl) g_COUNT ⟨_,rfl⟩) (fun _ _=>rfl)) (pv 2) (zt _)))))
 (zf (zcd zcx rfl (zgL X_BadThing (by rfl) (za z7 zb))))
 zr)
 (zf (zl (pv 3))))),?_⟩
 refine ⟨_,rfl,a,dx,_,rfl,eo,fl.n3,_,rfl,a,d,cs,n,rfl,vs,fun t v lt rep=>?_,fun ln=>qe false (zld ln)⟩
 refine ⟨_,rfl,t,v,rfl,rep,_,rfl,?_⟩
 cases z:isN t with
 | false=>
  refine ifT rfl (ifT rfl ⟨szl (show 1≤1000 by decide),fun e he=>⟨e,CB,none,rfl,ze,X_BadThing.cl.q,?_⟩⟩)
  rw [zdK he]
  exact qe true (zdH lt (zeZ z))
 | true=>
  obtain ⟨nd,rfl⟩:=zlO z
  obtain ⟨p,vk,vw,rfl,ea,rk,rw'⟩:=zK rep
  have et:SqT K H p [vk,vw,.int nd.l,.int nd.r,.int nd.c]:=SqT.of ea
  refine ifF rfl ⟨_,rfl,p,_,_,_,rfl,rfl,et,rfl,_,rfl,_,_,rfl,rfl,_,rfl,?_⟩
  by_cases hc:nd.c < m
  ·refine ifF (decide_eq_false (Int.not_le.mpr hc)) ⟨_,rfl,q nd _ (zbV lt (zjB z) hc) rep⟩
  ·refine ifT (decide_eq_true (Int.not_lt.mp hc)) ⟨szl (show 1≤1000 by decide),fun e he=>⟨e,CB,none,rfl,ze,X_BadThing.cl.q,?_⟩⟩
   rw [zdK he]
   refine qe true (zdH lt fun nd' e' _=>?_)
   cases nd with | mk a1 a2 a3 a4 a5=>
   cases nd' with | mk b1 b2 b3 b4 b5=>
   cases e'
   exact Int.not_lt.mp hc
theorem zhW (D:Dfn K mg "size_beneath" zbG ["vault","root","count"]) (F_node_beneath:FnX P w K mg base "node_beneath" 4 ["vault","root","count"] (zeu C CN CB)) (g_COUNT:mg "COUNT" =some (.int 4 t5)):
  FnX P w K mg base "size_beneath" 5 ["vault","root","count"] (zcw C CN CB):=by
 refine D.okX (k:=4) zd1 (fun vs H Q E h=>?_) (fun f cdv A outer s H vs Q E hr h=>?_)
 ·obtain ⟨a,d,cs,n,m,rfl,_⟩:=h;rfl
 obtain ⟨a,d,cs,n,m,rfl,vs,q,qe⟩:=h
 refine ⟨_,(zc (zD (zx zaO (pv 1) zd (zt _))
 (zf (zl zd))
 zr)
 (zf (zl (zz zH (zO F_node_beneath hr (by omega) (by rfl) zE (za (pv 0) (za (pv 1) (za (pv 2) zb)))) (zv (v:=.int 4) (by rfl) g_COUNT ⟨_,rfl⟩) (fun _ _=>rfl))))),?_⟩
 refine ⟨_,rfl,rfl,_,rfl,?_⟩
 rw [zan]
 by_cases h0:n=0
 ·exact ifT (decide_eq_true h0) (q 0 (if_pos h0))
 ·rw [zed h0] at q qe
  refine ifF (decide_eq_false h0) ?_
  refine ⟨_,rfl,_,rfl,_,rfl,a,d,cs,n,m,rfl,vs,fun nd v e rep=>?_,fun b e=>qe b (by rw [e];rfl)⟩
  obtain ⟨p,vk,vw,rfl,ea,rk,rw'⟩:=zK rep
  exact ⟨p,_,_,_,rfl,rfl,SqT.of ea,rfl,q nd.c (by rw [e];rfl)⟩
theorem zjH (D:Dfn K mg "size" ssize ["vault","root"]) (F_size_beneath:FnX P w K mg base "size_beneath" 5 ["vault","root","count"] (zcw C CN CB)) (g_BENEATH_NONE:mg "BENEATH_NONE" =some (.int 301 t7)):
  FnX P w K mg base "size" 6 ["vault","root"] (zhd C CN CB):=by
 refine D.okX (k:=5) zlH (fun vs H Q E h=>?_) (fun f cdv A outer s H vs Q E hr h=>?_)
 ·obtain ⟨a,d,cs,n,rfl,_⟩:=h;rfl
 obtain ⟨a,d,cs,n,rfl,vs,q,qe⟩:=h
 refine ⟨_,(zf (zl (zO F_size_beneath hr (by omega) (by rfl) zE (za (pv 0) (za (pv 1) (za (zv (v:=.int 301) (by rfl) g_BENEATH_NONE ⟨_,rfl⟩) zb)))))),?_⟩
 exact ⟨_,rfl,_,rfl,a,d,cs,n,301,rfl,vs,q,qe⟩
theorem zjN (D:Dfn K mg "refuse_sum" zch ["vault","node"]) (F_size_beneath:FnX P w K mg base "size_beneath" 5 ["vault","root","count"] (zcw C CN CB)) (X_BadThing:XP K mg "BadThing" CB) (g_LEFT:mg "LEFT" =some (.int 2 t3)) (g_RIGHT:mg "RIGHT" =some (.int 3 t4)) (g_COUNT:mg "COUNT" =some (.int 4 t5)):FnX P w K mg base "refuse_sum" 6 ["vault","node"] (zi6 C CN CB):=by
 refine D.okX (k:=5) zbW (fun vs H Q E h=>?_) (fun f cdv A outer s H vs Q E hr h=>?_)
 ·obtain ⟨a,d,cs,nd,v,rfl,_⟩:=h;rfl
 obtain ⟨a,d,cs,nd,v,rfl,vs,rn,q1,q2,q3⟩:=h
 obtain ⟨p,vk,vw,rfl,ea,rk,rw'⟩:=zK rn
 have et:SqT K H p [vk,vw,.int nd.l,.int nd.r,.int nd.c]:=SqT.of ea
 refine ⟨_,(zc (zq (i:=2) zbW.nd rfl (Or.inl rfl) (zO F_size_beneath hr (by omega) (by rfl) zE (za (pv 0) (za (zz zH (pv 1) (zv (v:=.int 2) (by rfl) g_LEFT ⟨_,rfl⟩) (fun _ _=>rfl)) (za (zz zH (pv 1) (zv (v:=.int 4) (by rfl) g_COUNT ⟨_,rfl⟩) (fun _ _=>rfl)) zb)))))
 (zc (zq (i:=3) zbW.nd rfl (Or.inl rfl) (zO F_size_beneath hr (by omega) (by rfl) zE (za (pv 0) (za (zz zH (pv 1) (zv (v:=.int 3) (by rfl) g_RIGHT ⟨_,rfl⟩) (fun _ _=>rfl)) (za (zz zH (pv 1) (zv (v:=.int 4) (by rfl) g_COUNT ⟨_,rfl⟩) (fun _ _=>rfl)) zb)))))
 (zf (zD (zx zdA (zA zT (zA zT (pv 2) (pv 3)) zd) (zz zH (pv 1) (zv (v:=.int 4) (by rfl) g_COUNT ⟨_,rfl⟩) (fun _ _=>rfl)) (zt _))
 (zf (zcd zcx rfl (zgL X_BadThing (by rfl) (za z7 zb))))
 zr)))),?_⟩
 refine ⟨_,rfl,_,rfl,p,_,_,_,rfl,rfl,et,rfl,_,rfl,p,_,_,_,rfl,rfl,et,rfl,a,d,cs,nd.l,nd.c,rfl,vs,fun x ex=>?_,q1⟩
 refine ⟨_,rfl,_,rfl,p,_,_,_,rfl,rfl,et,rfl,_,rfl,p,_,_,_,rfl,rfl,et,rfl,a,d,cs,nd.r,nd.c,rfl,vs,fun y ey=>?_,fun b=>q2 x b ex⟩
 obtain ⟨q4,q5⟩:=q3 x y ex ey
 refine ⟨_,rfl,_,rfl,_,_,rfl,rfl,_,_,rfl,rfl,_,rfl,p,_,_,_,rfl,rfl,et,rfl,rfl,_,rfl,?_⟩
 rw [zan]
 by_cases hs:x+y+1=nd.c
 ·exact ifF (by rw [decide_eq_true hs];rfl) (q5 hs)
 ·refine ifT (by rw [decide_eq_false hs];rfl) ⟨szl (show 1≤1000 by decide),fun e he=>⟨e,CB,none,rfl,ze,X_BadThing.cl.q,?_⟩⟩
  rw [zdK he]
  exact q4 hs
end
end Pv
namespace Pv
open PySem L2
inductive Way (cs:List (Int ×Th)) (x:Th):Int→Int→List Nd→Option Bool→Prop
 | nil {m:Int}:Way cs x 0 m [] none
 | bad {n m:Int} {b:Bool}:n≠0→ben cs n m=.error b→Way cs x n m [] (some b)
 | own {n m:Int} {nd:Nd}:n≠0→ben cs n m=.ok nd→KeyT nd.k→nd.k=x→Way cs x n m [nd] none
 | step {n m:Int} {nd:Nd} {ns:List Nd} {res:Option Bool}:n≠0→ben cs n m=.ok nd→KeyT nd.k→nd.k≠x→Way cs x (if zu nd.k x=true then nd.r else nd.l) nd.c ns res→Way cs x n m (nd::ns) res
theorem Way.inv {cs:List (Int ×Th)}{x:Th}{n m:Int}{ns:List Nd}{res:Option Bool}(h:Way cs x n m ns res):(n=0∧ns=[]∧res=none)∨(n≠0∧∃b,ben cs n m=.error b∧res=some b)∨
  (n≠0∧∃nd,ben cs n m=.ok nd∧KeyT nd.k∧((nd.k=x∧ns=[nd]∧res=none)∨(nd.k≠x∧∃ns',ns=nd::ns'∧Way cs x (if zu nd.k x=true then nd.r else nd.l) nd.c ns' res))):=by
 cases h with
 | nil=>exact .inl ⟨rfl,rfl,rfl⟩
 | bad h e=>exact .inr (.inl ⟨h,_,e,rfl⟩)
 | own h e k z=>exact .inr (.inr ⟨h,_,e,k,.inl ⟨z,rfl,rfl⟩⟩)
 | step h e k z w=>exact .inr (.inr ⟨h,_,e,k,.inr ⟨z,_,rfl,w⟩⟩)
theorem Way.keys {cs:List (Int ×Th)}{x:Th}{n m:Int}{ns:List Nd}{res:Option Bool}(h:Way cs x n m ns res):∀nd∈ns,KeyT nd.k:=by
 induction h with
 | nil=>intro nd h;cases h
 | bad=>intro nd h;cases h
 | own _ _ k _=>intro nd h;rw [List.mem_singleton.mp h];exact k
 | step _ _ k _ _ ih=>
  intro nd h
  rcases List.mem_cons.mp h with rfl | h
  ·exact k
  ·exact ih nd h
theorem zbR {xs:List V}{v:V}:atI (xs++ [v]) (-1)=some v:=by
 unfold atI ixN
 rw [if_neg (by decide),if_pos (by simp only [List.length_append,List.length_singleton];omega)]
 show (xs++ [v])[((-1:Int)+(((xs++ [v]).length:Nat):Int)).toNat]? =_
 rw [show ((-1:Int)+(((xs++ [v]).length:Nat):Int)).toNat=xs.length by simp only [List.length_append,List.length_singleton];omega,List.getElem?_append_right (Nat.le_refl _),Nat.sub_self]
 rfl
def zg4 (ns:List Nd)(x:Th):Bool:=match ns.getLast? with
 | none=>false
 | some nd=>eqT nd.k x
def zdS (C CN CB:Addr):Sp:=fun vs H Q E=>∃(a d:Addr) (cs:List (Int ×Th)) (n:Int) (x:Th) (vx:V) (ns:List Nd) (res:Option Bool),vs=[.ref a,.int n,vx]∧VS H C a d cs∧Way cs x n 301 ns res∧ns.length≤300∧Rep H x vx∧KeyT x∧
 (res=none→∀pw ws H',Same H H'→H pw=none→H' pw=some (.lst ws)→RepL H' (ns.map Nd.th) ws→Q (.ref pw) H')∧(∀b H',res=some b→Same H H'→E (.ref (exA CN CB b)) none H')
def zhn (K:PySem.W.Frag):Sp:=fun vs H Q _=>∃(pw:Addr) (ws:List V) (ns:List Nd) (x:Th) (vx:V),vs=[.ref pw,vx]∧SqL K H pw ws∧RepL H (ns.map Nd.th) ws∧(∀nd∈ns,KeyT nd.k)∧Rep H x vx∧Q (.bl (zg4 ns x)) H
def zfY (C CN CB:Addr):Sp:=fun vs H Q E=>∃(a d:Addr) (cs:List (Int ×Th)) (n:Int) (x:Th) (vx:V) (ns:List Nd) (res:Option Bool),vs=[.ref a,.int n,vx]∧VS H C a d cs∧Way cs x n 301 ns res∧ns.length≤300∧Rep H x vx∧KeyT x∧
 (res=none→∃pre nd,ns=pre++ [nd]∧nd.k=x∧∀v H',Same H H'→Rep H' nd.w v→Q v H')∧(∀b H',res=some b→Same H H'→E (.ref (exA CN CB b)) none H')
def zjt (C CN CB:Addr):Sp:=fun vs H Q E=>∃(a d:Addr) (cs:List (Int ×Th)) (n:Int) (x:Th) (vx vw:V) (ns:List Nd) (b:Bool),vs=[.ref a,.int n,vx,vw]∧VS H C a d cs∧Way cs x n 301 ns (some b)∧ns.length≤300∧Rep H x vx∧KeyT x∧∀H',Same H H'→E (.ref (exA CN CB b)) none H'
def zmN (C CN CB:Addr):Sp:=fun vs H Q E=>∃(a d:Addr) (cs:List (Int ×Th)) (n:Int) (x:Th) (vx:V) (ns:List Nd) (b:Bool),vs=[.ref a,.int n,vx]∧VS H C a d cs∧Way cs x n 301 ns (some b)∧ns.length≤300∧Rep H x vx∧KeyT x∧∀H',Same H H'→E (.ref (exA CN CB b)) none H'
section
variable {P:Program}{w:World}{K:PySem.W.Frag}{mg:Str→Option Value}{base:Heap}{C CC CN CB:Addr}{x:Str}{t1 t2 t3 t4 t5 t6 t7:Tok}
theorem zj2 (D:Dfn K mg "way_to" zeR ["vault","root","key"]) (F_node_beneath:FnX P w K mg base "node_beneath" 4 ["vault","root","count"] (zeu C CN CB)) (F_side_of:Fn P w K mg base "side_of" 21 ["node","key"] ziw) (g_KEY:mg "KEY" =some (.int 0 t1)) (g_COUNT:mg "COUNT" =some (.int 4 t5)) (g_BENEATH_NONE:mg "BENEATH_NONE" =some (.int 301 t7)):
  FnX P w K mg base "way_to" 22 ["vault","root","key"] (zdS C CN CB):=by
 refine D.okX (k:=21) zbL (fun vs H Q E h=>?_) (fun f cdv A outer s H vs Q E hr h=>?_)
 ·obtain ⟨a,d,cs,n,x,vx,ns,res,rfl,_⟩:=h;rfl
 obtain ⟨a,d,cs,n,x,vx,ns,res,rfl,vs,wy,hns,rx,kx,q,qe⟩:=h
 refine ⟨_,(zc (zq (i:=3) zbL.nd rfl (Or.inl rfl) (zL zb))
 (zc (zq (i:=4) zbL.nd rfl (Or.inl rfl) (zv (v:=.int 301) (by rfl) g_BENEATH_NONE ⟨_,rfl⟩))
 (zc (zdP PassesOwn.leaving (zx zdA (pv 1) zd (zt _))
 (zc (zq (i:=5) zbL.nd rfl (Or.inl rfl) (zO F_node_beneath hr (by omega) (by rfl) zE (za (pv 0) (za (pv 1) (za (pv 4) zb)))))
 (zc (zao (zdp PySem.F.plainAttrs_list PySem.F.slot_list_append PySem.F.type_list_append zaP (pv 3) (za (pv 5) zb)))
 (zc (zD (zx (zdL hr) (zz zH (pv 5) (zv (v:=.int 0) (by rfl) g_KEY ⟨_,rfl⟩) (fun _ _=>rfl)) (pv 2) (zt _))
 (zf (zl (pv 3)))
 zr)
 (zc (zq (i:=1) zbL.nd rfl (Or.inl rfl) (zz zH (pv 5) (zw F_side_of hr (by omega) (by rfl) (za (pv 5) (za (pv 2) zb))) (fun _ _=>rfl)))
 (zf (zq (i:=4) zbL.nd rfl (Or.inl rfl) (zz zH (pv 5) (zv (v:=.int 4) (by rfl) g_COUNT ⟨_,rfl⟩) (fun _ _=>rfl)))))))))
 (zf (zl (pv 3)))))),?_⟩
 refine ⟨szl (show 0≤1000 by decide),fun pw hpw=>?_⟩
 have s0:=zo (o:=.lst []) (Same.refl H) hpw
 have e0:upd H pw (.lst []) pw=some (.lst []):=ze
 generalize upd H pw (.lst [])=H0 at s0 e0
 refine ⟨fun m σ H'=>∃(n c:Int) (done rest:List Nd) (ws:List V) (k5:Option V),m=rest.length∧Way cs x n c rest res∧ns=done++rest∧σ=[some (.ref a),some (.int n),some vx,some (.ref pw),some (.int c),k5]∧Same H H'∧H' pw=some (.lst ws)∧RepL H' (done.map Nd.th) ws,⟨ns.length,n,301,[],ns,[],_,rfl,wy,rfl,rfl,s0,e0,.nil⟩,?_⟩
 clear wy
 rintro m σ H1 ⟨n,c,done,rest,ws,k5,rfl,wy,ens,rfl,s1,e1,r1⟩
 refine ⟨_,rfl,rfl,_,rfl,?_⟩
 rw [zan]
 have vs1:=vs.same s1
 rcases wy.inv with ⟨hn,er,eres⟩ | ⟨hn,b,hb,eres⟩ | ⟨hn,nd,hb,kk,hnd⟩
 ·refine ifF (by rw [decide_eq_true hn];rfl) ⟨_,rfl,q eres pw ws H1 s1 hpw e1 ?_⟩
  rw [ens,er,List.append_nil];exact r1
 ·refine ifT (by rw [decide_eq_false hn];rfl) ⟨_,fun σ' H' h=>h,?_⟩
  refine ⟨_,rfl,_,rfl,_,rfl,a,d,cs,n,c,rfl,vs1,fun nd v e _=>(by rw [hb] at e;cases e),fun b' e=>?_⟩
  rw [hb] at e;cases e
  exact qe _ H1 eres s1
 ·refine ifT (by rw [decide_eq_false hn];rfl) ⟨_,fun σ' H' h=>h,?_⟩
  refine ⟨_,rfl,_,rfl,_,rfl,a,d,cs,n,c,rfl,vs1,fun nd' v e rn=>?_,fun b' e=>(by rw [hb] at e;cases e)⟩
  rw [hb] at e;cases e
  obtain ⟨p,vk,vw,rfl,ea,rk,rw'⟩:=zK rn
  have hrl:1≤rest.length:=by
   rcases hnd with ⟨_,e,_⟩ | ⟨_,ns',e,_⟩ <;> rw [e] <;> simp
  have hlw:ws.length+rest.length=ns.length:=by rw [r1.len,List.length_map,ens,List.length_append]
  refine ⟨_,rfl,.inl ⟨rfl,_,SqL.of e1⟩,_,rfl,pw,ws,_,rfl,rfl,e1,Nat.lt_of_lt_of_le (show ws.length < 1000 by omega) (szl (Nat.le_refl _)),?_⟩
  have tk1:Tups H1 (upd H1 pw (.lst (ws++ [.ref p]))):=Tups.upd fun xs z=>by rw [e1] at z;cases z
  have e2:upd H1 pw (.lst (ws++ [.ref p])) pw=some (.lst (ws++ [.ref p])):=ze
  have s2:Same H (upd H1 pw (.lst (ws++ [.ref p]))):=zcr s1 hpw
  have r2:RepL (upd H1 pw (.lst (ws++ [.ref p]))) ((done++ [nd]).map Nd.th) (ws++ [.ref p]):=by
   rw [List.map_append]
   exact (r1.keep tk1).snoc (rn.keep tk1)
  have rn2:=rn.keep tk1
  have ea2:=tk1 _ _ ea
  have rk2:=rk.keep tk1
  generalize upd H1 pw (.lst (ws++ [.ref p]))=H2 at tk1 e2 s2 r2 rn2 ea2 rk2
  have et:SqT K H2 p _:=SqT.of ea2
  have kd:=kk.dp
  refine ⟨_,rfl,p,_,_,_,rfl,rfl,et,rfl,_,rfl,nd.k,x,rk2,rx.keep (Same.tups s2),by omega,_,rfl,?_⟩
  rcases hnd with ⟨ek,er,eres⟩ | ⟨ek,ns',er,wy'⟩
  ·refine ifT (by rw [ek,zaw]) ⟨_,rfl,q eres pw _ H2 s2 hpw e2 ?_⟩
   rw [ens,er];exact r2
  ·refine ifF (by cases z:eqT nd.k x with | true=>exact absurd ((zbw _ _).mp z) ek | false=>rfl) ?_
   refine ⟨_,rfl,_,rfl,_,rfl,_,_,nd.k,nd.w,x,_,_,_,rfl,rn2,rx.keep (Same.tups s2),kk,fun H3 s3=>?_⟩
   have s03:Same H H3:=fun b o e=>s3 b o (s2 b o e)
   have et3:SqT K H3 p _:=SqT.of (s3 _ _ ea2)
   have ix:atI [vk,vw,.int nd.l,.int nd.r,.int nd.c] (zfK nd.k x)=some (.int (if zu nd.k x=true then nd.r else nd.l)):=by
    unfold zfK
    by_cases y:zu nd.k x=true
    ·rw [if_pos y,if_pos y];rfl
    ·rw [if_neg y,if_neg y];rfl
   refine ⟨p,_,_,_,rfl,rfl,et3,ix,?_⟩
   refine ⟨_,rfl,p,_,_,_,rfl,rfl,et3,rfl,?_⟩
   exact ⟨ns'.length,by rw [er];exact Nat.lt_succ_self _,_,_,done++ [nd],ns',_,_,rfl,wy',by rw [ens,er];simp,rfl,s03,s3 _ _ e2,r2.keep (Same.tups s3)⟩
theorem zil (D:Dfn K mg "ends_at" zeh ["way","key"]) (g_KEY:mg "KEY" =some (.int 0 t1)) (m_len:mg "len" =none):Fn P w K mg base "ends_at" 1 ["way","key"] (zhn K):=by
 refine D.ok (k:=0) zhP (fun vs H Q E h=>?_) (fun f cdv A outer s H vs Q E hr h=>?_)
 ·obtain ⟨pw,ws,ns,x,vx,rfl,_⟩:=h;rfl
 obtain ⟨pw,ws,ns,x,vx,rfl,hs,rw,kt,rx,q⟩:=h
 have hl:ws.length=ns.length:=by rw [rw.len,List.length_map]
 refine ⟨_,(zf (zl (zbz (zS zgE (zF (z8) (by rfl) m_len (by rfl) (za (pv 0) zb)) zd (zt _)) (zbo (zS (zdL hr) (zz zH (zz zI (pv 0) (zdr zco zd) (fun _ _=>rfl)) (zv (v:=.int 0) (by rfl) g_KEY ⟨_,rfl⟩) (fun _ _=>rfl)) (pv 1) (zt _)))))),?_⟩
 refine ⟨_,rfl,pw,_,rfl,.inl hs,_,_,rfl,rfl,_,rfl,?_⟩
 rcases List.eq_nil_or_concat ns with e | ⟨pre,nd,e⟩
 ·subst e
  refine ifF (by show decide ((0:Int) < ((ws.length:Nat):Int))=false;rw [hl];rfl) q
 ·rw [List.concat_eq_append] at e
  subst e
  have kd:=(kt nd (by simp)).dp
  rw [List.map_append] at rw
  obtain ⟨us,v,rfl,rus,rn⟩:=rw.unsnoc
  obtain ⟨p,vk,vw,rfl,ea,rk,_⟩:=zK rn
  refine ifT (decide_eq_true (show (0:Int) < (((us++ [V.ref p]).length:Nat):Int) by simp only [List.length_append,List.length_singleton];omega)) ?_
  have q':Q (.bl (eqT nd.k x)) H:=by
   unfold zg4 at q
   rw [List.getLast?_concat] at q
   exact q
  exact ⟨_,rfl,_,rfl,pw,_,_,_,rfl,rfl,hs,zbR,p,_,_,_,rfl,rfl,SqT.of ea,rfl,_,rfl,nd.k,x,rk,rx,by omega,q'⟩
theorem zh6 (D:Dfn K mg "found" zgf ["vault","root","key"]) (F_way_to:FnX P w K mg base "way_to" 22 ["vault","root","key"] (zdS C CN CB)) (F_ends_at:Fn P w K mg base "ends_at" 1 ["way","key"] (zhn K)) (g_WORTH:mg "WORTH" =some (.int 1 t2)):FnX P w K mg base "found" 23 ["vault","root","key"] (zfY C CN CB):=by
 refine D.okX (k:=22) zgK (fun vs H Q E h=>?_) (fun f cdv A outer s H vs Q E hr h=>?_)
 ·obtain ⟨a,d,cs,n,x,vx,ns,res,rfl,_⟩:=h;rfl
 obtain ⟨a,d,cs,n,x,vx,ns,res,rfl,vs,wy,hns,rx,kx,q,qe⟩:=h
 refine ⟨_,(zc (zq (i:=3) zgK.nd rfl (Or.inl rfl) (zO F_way_to hr (by omega) (by rfl) zE (za (pv 0) (za (pv 1) (za (pv 2) zb)))))
 (zf (zl (zcZ (zQ (zw F_ends_at hr (by omega) (by rfl) (za (pv 3) (za (pv 2) zb)))) (zz zH (zz zI (pv 3) (zdr zco zd) (fun _ _=>rfl)) (zv (v:=.int 1) (by rfl) g_WORTH ⟨_,rfl⟩) (fun _ _=>rfl)) zJ)))),?_⟩
 refine ⟨_,rfl,_,rfl,_,rfl,a,d,cs,n,x,vx,ns,res,rfl,vs,wy,hns,rx,kx,fun er pw ws H1 s1 hpw ew rwy=>?_,qe⟩
 obtain ⟨pre,nd,e,ek,q⟩:=q er
 have eb:zg4 ns x=true:=by
  unfold zg4
  rw [e,List.getLast?_concat]
  show eqT nd.k x=true
  rw [ek,zaw]
 refine ⟨_,rfl,_,rfl,pw,ws,ns,x,vx,rfl,SqL.of ew,rwy,wy.keys,rx.keep (Same.tups s1),_,rfl,?_⟩
 rw [eb]
 rw [e,List.map_append] at rwy
 obtain ⟨us,v,rfl,rus,rn⟩:=rwy.unsnoc
 obtain ⟨p,vk,vw,rfl,ea,rk,rw'⟩:=zK rn
 exact ifT rfl ⟨_,rfl,_,rfl,pw,_,_,_,rfl,rfl,SqL.of ew,zbR,p,_,_,_,rfl,rfl,SqT.of ea,rfl,q vw H1 s1 rw'⟩
theorem zjU (D:Dfn K mg "put" sput ["vault","root","key","worth"]) (F_way_to:FnX P w K mg base "way_to" 22 ["vault","root","key"] (zdS C CN CB)):FnX P w K mg base "put" 23 ["vault","root","key","worth"] (zjt C CN CB):=by
 refine D.okX (k:=22) zkL (fun vs H Q E h=>?_) (fun f cdv A outer s H vs Q E hr h=>?_)
 ·obtain ⟨a,d,cs,n,x,vx,vw,ns,b,rfl,_⟩:=h;rfl
 obtain ⟨a,d,cs,n,x,vx,vw,ns,b,rfl,vs,wy,hns,rx,kx,qe⟩:=h
 refine ⟨_,(zc (zq (i:=4) zkL.nd rfl (Or.inl rfl) (zO F_way_to hr (by omega) (by rfl) zE (za (pv 0) (za (pv 1) (za (pv 2) zb)))))
 zeO),?_⟩
 exact ⟨_,rfl,_,rfl,_,rfl,a,d,cs,n,x,vx,ns,some b,rfl,vs,wy,hns,rx,kx,(by intro er;cases er),(by intro b' H' e s;cases e;exact qe H' s)⟩
end
end Pv
namespace Pv
open PySem L2
def jn (one other:Nd)(l r:Int):Th:=if zaM one.k other.k=true then zau one.k one.w one.l r (one.c+other.c) else zau other.k other.w l other.r (one.c+other.c)
def zcR (C CC CN CB a d:Addr)(cs:List (Int ×Th))(l r m:Int)(H:Hp)(Q:VK)(E:XK):Prop:=
 (∃b,ben cs l m=.error b∧∀H',Same H H'→E (.ref (exA CN CB b)) none H')∨(∃one b,ben cs l m=.ok one∧ben cs r m=.error b∧∀H',Same H H'→E (.ref (exA CN CB b)) none H')∨
 (∃one other,ben cs l m=.ok one∧ben cs r m=.ok other∧one.r=0∧other.l=0∧KeyT one.k∧KeyT other.k∧Good (jn one other l r)∧cs.length≤900000∧Cl CC E∧
  ∀H',Fr1 d H H'→VS H' C a d (addT cs (zk (jn one other l r)) (jn one other l r))→Q (.int (zk (jn one other l r))) H')
theorem zcR.same {C CC CN CB a d:Addr}{cs:List (Int ×Th)}{l r m:Int}{H H1:Hp}{Q:VK}{E:XK}(h:zcR C CC CN CB a d cs l r m H Q E)(s:Same H H1):zcR C CC CN CB a d cs l r m H1 Q E:=by
 rcases h with ⟨b,e,q⟩ | ⟨one,b,e1,e2,q⟩ | ⟨one,other,e1,e2,e3,e4,k1,k2,g,hl,cl,q⟩
 ·exact .inl ⟨b,e,fun H' s'=>q H' fun b o z=>s' b o (s b o z)⟩
 ·exact .inr (.inl ⟨one,b,e1,e2,fun H' s'=>q H' fun b o z=>s' b o (s b o z)⟩)
 ·exact .inr (.inr ⟨one,other,e1,e2,e3,e4,k1,k2,g,hl,cl,fun H' f=>q H' ((Same.fr1 s).trans f)⟩)
theorem zcR.imp {C CC CN CB a d:Addr}{cs:List (Int ×Th)}{l r m:Int}{H:Hp}{Q Q':VK}{E:XK}(h:zcR C CC CN CB a d cs l r m H Q E)(k:∀n H',Fr1 d H H'→Q (.int n) H'→Q' (.int n) H'):zcR C CC CN CB a d cs l r m H Q' E:=by
 rcases h with h | h | ⟨one,other,e1,e2,e3,e4,k1,k2,g,hl,cl,q⟩
 ·exact .inl h
 ·exact .inr (.inl h)
 ·exact .inr (.inr ⟨one,other,e1,e2,e3,e4,k1,k2,g,hl,cl,fun H' f v=>k _ H' f (q H' f v)⟩)
def zmR (C CC CN CB:Addr):Sp:=fun vs H Q E=>∃(a d:Addr) (cs:List (Int ×Th)) (l r m:Int),vs=[.ref a,.int l,.int r,.int m]∧VS H C a d cs∧l≠0∧r≠0∧zcR C CC CN CB a d cs l r m H Q E
def zmM (C CC CN CB:Addr):Sp:=fun vs H Q E=>∃(a d:Addr) (cs:List (Int ×Th)) (l r:Int),vs=[.ref a,.int l,.int r]∧VS H C a d cs∧l≠0∧r≠0∧zcR C CC CN CB a d cs l r 301 H Q E
def zmI:Sp:=fun vs H Q _=>∃(a pw:Addr) (vx:V) (r m:Int),vs=[.ref a,.ref pw,vx,.int r,.int m]∧H pw=some (.lst [])∧Q (.int r) H
def zm1 (C CC CN CB:Addr):Sp:=fun vs H Q E=>∃(a d:Addr) (cs:List (Int ×Th)) (n:Int) (x:Th) (vx:V),vs=[.ref a,.int n,vx]∧VS H C a d cs∧Rep H x vx∧KeyT x∧
 ((∃ns b,Way cs x n 301 ns (some b)∧ns.length≤300∧∀H',Same H H'→E (.ref (exA CN CB b)) none H')∨(∃nd,n≠0∧ben cs n 301=.ok nd∧nd.k=x∧nd.l≠0∧nd.r≠0∧zcR C CC CN CB a d cs nd.l nd.r nd.c H Q E))
def zjA (C CN CB:Addr):Sp:=fun vs H Q E=>∃(a d:Addr) (cs:List (Int ×Th)) (n:Int) (x:Th) (vx:V) (ns:List Nd) (res:Option Bool),vs=[.ref a,.int n,vx]∧VS H C a d cs∧Way cs x n 301 ns res∧ns.length≤300∧Rep H x vx∧KeyT x∧
 (res=none→(∀nd∈ns,∃c,zV cs nd.l nd.c=.ok c)∧∀i H',Same H H'→Q (.int i) H')∧(∀b H',res=some b→Same H H'→E (.ref (exA CN CB b)) none H')
def zlZ (C CN CB:Addr):Sp:=fun vs H Q E=>∃(a d:Addr) (cs:List (Int ×Th)) (n:Int) (lo hi:Th) (vl vh:V),vs=[.ref a,.int n,vl,vh]∧VS H C a d cs∧Rep H lo vl∧Rep H hi vh∧dep lo≤3∧
 ((zai lo hi=true∧∀H',Same H H'→Q (.int 0) H')∨(lo=.non∧KeyT hi∧∃ns b,Way cs hi n 301 ns (some b)∧ns.length≤300∧∀H',Same H H'→E (.ref (exA CN CB b)) none H')∨
  (zai lo hi=false∧KeyT lo∧KeyT hi∧∃ns ns',Way cs hi n 301 ns none∧Way cs lo n 301 ns' none∧ns.length≤300∧ns'.length≤300∧(∀nd∈ns,∃c,zV cs nd.l nd.c=.ok c)∧(∀nd∈ns',∃c,zV cs nd.l nd.c=.ok c)∧∀i H',Same H H'→Q (.int i) H'))
def zm7 (C CN CB:Addr):Sp:=fun vs H Q E=>∃(a d:Addr) (cs:List (Int ×Th)) (n i:Int),vs=[.ref a,.int n,.int i]∧VS H C a d cs∧
 ((i < 0∧Q .non H)∨(i=0∧n≠0∧∃nd b,ben cs n 301=.ok nd∧zV cs nd.l nd.c=.error b∧E (.ref (exA CN CB b)) none H))
section
variable {P:Program}{w:World}{K:PySem.W.Frag}{mg:Str→Option Value}{base:Heap}{C CC CN CB:Addr}{x:Str}{t1 t2 t3 t4 t5 t6 t7:Tok}
theorem zkr (D:Dfn K mg "count_ahead" zbT ["vault","root","key"]) (F_way_to:FnX P w K mg base "way_to" 22 ["vault","root","key"] (zdS C CN CB)) (F_ahead:Fn P w K mg base "ahead" 20 ["one","other"] (zbc 9)) (F_size_beneath:FnX P w K mg base "size_beneath" 5 ["vault","root","count"] (zcw C CN CB)) (g_KEY:mg "KEY" =some (.int 0 t1)) (g_LEFT:mg "LEFT" =some (.int 2 t3)) (g_COUNT:mg "COUNT" =some (.int 4 t5)):
  FnX P w K mg base "count_ahead" 23 ["vault","root","key"] (zjA C CN CB):=by
 refine D.okX (k:=22) zaF (fun vs H Q E h=>?_) (fun f cdv A outer s H vs Q E hr h=>?_)
 ·obtain ⟨a,d,cs,n,x,vx,ns,res,rfl,_⟩:=h;rfl
 obtain ⟨a,d,cs,n,x,vx,ns,res,rfl,vs,wy,hns,rx,kx,q,qe⟩:=h
 refine ⟨_,(zc (zq (i:=3) zaF.nd rfl (Or.inl rfl) zd)
 (zc (zbm PassesOwn.leaving rfl (zcz (zO F_way_to hr (by omega) (by rfl) zE (za (pv 0) (za (pv 1) (za (pv 2) zb))))) (zX (i:=4) zaF.nd rfl (Or.inl rfl))
 (zc (zD (zQ (zw F_ahead hr (by omega) (by rfl) (za (pv 2) (za (zz zH (pv 4) (zv (v:=.int 0) (by rfl) g_KEY ⟨_,rfl⟩) (fun _ _=>rfl)) zb))))
 (zf zfZ)
 zr)
 (zc (zq (i:=3) zaF.nd rfl (Or.inl rfl) (zA zT (pv 3) (zO F_size_beneath hr (by omega) (by rfl) zE (za (pv 0) (za (zz zH (pv 4) (zv (v:=.int 2) (by rfl) g_LEFT ⟨_,rfl⟩) (fun _ _=>rfl)) (za (zz zH (pv 4) (zv (v:=.int 4) (by rfl) g_COUNT ⟨_,rfl⟩) (fun _ _=>rfl)) zb))))))
 (zf (zD (zx (zb6 hr) (zz zH (pv 4) (zv (v:=.int 0) (by rfl) g_KEY ⟨_,rfl⟩) (fun _ _=>rfl)) (pv 2) (zt _))
 (zf (zq (i:=3) zaF.nd rfl (Or.inl rfl) (zA zT (pv 3) zd)))
 zr)))))
 (zf (zl (pv 3))))),?_⟩
 refine ⟨_,rfl,_,rfl,_,rfl,a,d,cs,n,x,vx,ns,res,rfl,vs,wy,hns,rx,kx,fun er pw ws H1 s1 hpw ew rw=>?_,qe⟩
 obtain ⟨hsz,q⟩:=q er
 have hl:ws.length=ns.length:=by rw [rw.len,List.length_map]
 refine ⟨pw,rfl,⟨ws,SqL.of ew⟩,?_⟩
 refine zcv (xs:=ws) (fun i σ H'=>∃(m:Int) (k4:Option V),σ=[some (.ref a),some (.int n),some vx,some (.int m),k4]∧Same H1 H') ⟨0,_,rfl,Same.refl _⟩ ?_ ?_ ?_
 ·rintro i σ H' _ ⟨m,k4,rfl,sm⟩
  exact SqL.of (sm _ _ ew)
 ·rintro i y σ H' hy ⟨m,k4,rfl,sm⟩
  have hi:i < ws.length:=(List.getElem?_eq_some_iff.mp hy).1
  have hin:i < ns.length:=by omega
  have en:ns[i]? =some ns[i]:=List.getElem?_eq_getElem hin
  have rn:Rep H' ns[i].th y:=(rw.at i y _ hy (by rw [List.getElem?_map,en];rfl)).keep (Same.tups sm)
  have kk:=wy.keys _ (List.getElem_mem hin)
  obtain ⟨c,ec⟩:=hsz _ (List.getElem_mem hin)
  generalize ns[i]=nd at rn kk ec
  obtain ⟨p,vk,vw,rfl,ea,rk,_⟩:=zK rn
  have s1':Same H H':=fun b o e=>sm b o (s1 b o e)
  have rx':=rx.keep (Same.tups s1')
  have kd:=kk.dp
  have kxd:=kx.dp
  refine ⟨_,rfl,_,rfl,p,_,_,_,rfl,rfl,SqT.of ea,rfl,x,nd.k,_,_,rfl,rx',rk,by omega,by omega,fun H2 s2=>⟨_,rfl,?_⟩⟩
  have sm2:Same H1 H2:=fun b o e=>s2 b o (sm b o e)
  cases z:zu x nd.k with
  | true=>exact ifT rfl ⟨m,_,rfl,sm2⟩
  | false=>
   refine ifF rfl ?_
   have et2:SqT K H2 p _:=SqT.of (s2 _ _ ea)
   refine ⟨_,rfl,_,rfl,_,rfl,p,_,_,_,rfl,rfl,et2,rfl,_,rfl,p,_,_,_,rfl,rfl,et2,rfl,a,d,cs,nd.l,nd.c,rfl,vs.same (fun b o e=>s2 b o (s1' b o e)),fun c' ec'=>?_,fun b e=>(by rw [ec] at e;cases e)⟩
   refine ⟨_,_,rfl,rfl,?_⟩
   refine ⟨_,rfl,p,_,_,_,rfl,rfl,et2,rfl,_,rfl,nd.k,x,rk.keep (Same.tups s2),rx'.keep (Same.tups s2),by omega,_,rfl,?_⟩
   refine ifB (fun cc=>?_) (fun cc=>?_)
   ·exact ⟨_,rfl,_,_,rfl,rfl,_,_,rfl,sm2⟩
   ·exact ⟨_,_,rfl,sm2⟩
 ·rintro σ H' ⟨m,k4,rfl,sm⟩
  exact ⟨_,rfl,q m H' fun b o e=>sm b o (s1 b o e)⟩
end
end Pv
namespace Pv
open PySem L2
def SumE (cs:List (Int ×Th))(nd:Nd)(b:Bool):Prop:=zV cs nd.l nd.c=.error b∨(∃x,zV cs nd.l nd.c=.ok x∧zV cs nd.r nd.c=.error b)∨(∃x y,zV cs nd.l nd.c=.ok x∧zV cs nd.r nd.c=.ok y∧x+y+1≠nd.c∧b=true)
def SumO (cs:List (Int ×Th))(nd:Nd):Prop:=∃x y,zV cs nd.l nd.c=.ok x∧zV cs nd.r nd.c=.ok y∧x+y+1=nd.c
def inB (lo hi:Th)(nd:Nd):Bool:=zav hi nd.k && (decide (lo=.non) || !zu nd.k lo)
inductive StW (cs:List (Int ×Th)) (lo hi:Th):Nat→Int→List Nd→List (Th ×Th)→Int→Except Bool (List (Th ×Th))→Prop
 | done {c:Int} {ps:List (Th ×Th)}:StW cs lo hi 0 0 [] ps c (.ok ps)
 | bad {n c:Int} {bg:List Nd} {ps:List (Th ×Th)} {b:Bool}:n≠0→ben cs n c=.error b→StW cs lo hi 0 n bg ps c (.error b)
 | sum {n c:Int} {bg:List Nd} {ps:List (Th ×Th)} {b:Bool} {nd:Nd}:n≠0→ben cs n c=.ok nd→KeyT nd.k→zad lo nd.k=true→zav hi nd.k=true→SumE cs nd b→StW cs lo hi 0 n bg ps c (.error b)
 | push {k:Nat} {n c:Int} {bg:List Nd} {ps:List (Th ×Th)} {nd:Nd} {res:Except Bool (List (Th ×Th))}:n≠0→ben cs n c=.ok nd→KeyT nd.k→(zad lo nd.k=true→zav hi nd.k=true→SumO cs nd)→StW cs lo hi k (if zad lo nd.k=true then nd.l else 0) (bg++ [nd]) ps nd.c res→StW cs lo hi (k+1) n bg ps c res
 | pop {k:Nat} {c:Int} {bg:List Nd} {ps:List (Th ×Th)} {nd:Nd} {res:Except Bool (List (Th ×Th))}:KeyT nd.k→StW cs lo hi k (if zav hi nd.k=true then nd.r else 0) bg (if inB lo hi nd=true then ps++ [(nd.k,nd.w)] else ps) nd.c res→StW cs lo hi (k+1) 0 (bg++ [nd]) ps c res
theorem StW.inv {cs:List (Int ×Th)}{lo hi:Th}{m:Nat}{n c:Int}{bg:List Nd}{ps:List (Th ×Th)}{res:Except Bool (List (Th ×Th))}(h:StW cs lo hi m n bg ps c res):
  (n=0∧bg=[]∧res=.ok ps)∨(n≠0∧∃b,ben cs n c=.error b∧res=.error b)∨
  (n≠0∧∃nd,ben cs n c=.ok nd∧KeyT nd.k∧((zad lo nd.k=true∧zav hi nd.k=true∧∃b,SumE cs nd b∧res=.error b)∨((zad lo nd.k=true→zav hi nd.k=true→SumO cs nd)∧∃k,m=k+1∧StW cs lo hi k (if zad lo nd.k=true then nd.l else 0) (bg++ [nd]) ps nd.c res)))∨
  (n=0∧∃nd bg' k,bg=bg'++ [nd]∧m=k+1∧KeyT nd.k∧StW cs lo hi k (if zav hi nd.k=true then nd.r else 0) bg' (if inB lo hi nd=true then ps++ [(nd.k,nd.w)] else ps) nd.c res):=by
 cases h with
 | done=>exact .inl ⟨rfl,rfl,rfl⟩
 | bad h e=>exact .inr (.inl ⟨h,_,e,rfl⟩)
 | sum h e k g1 g2 s=>exact .inr (.inr (.inl ⟨h,_,e,k,.inl ⟨g1,g2,_,s,rfl⟩⟩))
 | push h e k s w=>exact .inr (.inr (.inl ⟨h,_,e,k,.inr ⟨s,_,rfl,w⟩⟩))
 | pop k w=>exact .inr (.inr (.inr ⟨rfl,_,_,_,rfl,rfl,k,w⟩))
structure SX (H0 H:Hp)(pp pb:Addr)(bg:List Nd)(ps:List (Th ×Th)):Prop where
 sm:Same H0 H
 xs:∃xs,H pp=some (.lst xs)∧RepL H (ps.map zab) xs
 bs:∃bs,H pb=some (.lst bs)∧RepL H (bg.map Nd.th) bs
theorem SX.same {H0 H H':Hp}{pp pb:Addr}{bg:List Nd}{ps:List (Th ×Th)}(i:SX H0 H pp pb bg ps)(s:Same H H'):SX H0 H' pp pb bg ps:=by
 obtain ⟨xs,e1,r1⟩:=i.xs
 obtain ⟨bs,e2,r2⟩:=i.bs
 exact ⟨fun b o e=>s b o (i.sm b o e),⟨xs,s _ _ e1,r1.keep (Same.tups s)⟩,⟨bs,s _ _ e2,r2.keep (Same.tups s)⟩⟩
theorem SX.setB {H0 H:Hp}{pp pb:Addr}{bg bg':List Nd}{ps:List (Th ×Th)}{bs':List V}(i:SX H0 H pp pb bg ps)(np:pp≠pb)(hb:H0 pb=none)(r:RepL H (bg'.map Nd.th) bs'):SX H0 (upd H pb (.lst bs')) pp pb bg' ps:=by
 obtain ⟨xs,e1,r1⟩:=i.xs
 obtain ⟨bs,e2,r2⟩:=i.bs
 have tk:Tups H (upd H pb (.lst bs')):=Tups.upd fun xs z=>by rw [e2] at z;cases z
 exact ⟨fun b o e=>by rw [zj (zh e hb)];exact i.sm b o e,⟨xs,by rw [zj np];exact e1,r1.keep tk⟩,⟨_,ze,r.keep tk⟩⟩
theorem SX.setP {H0 H:Hp}{pp pb:Addr}{bg:List Nd}{ps ps':List (Th ×Th)}{xs':List V}(i:SX H0 H pp pb bg ps)(np:pp≠pb)(hb:H0 pp=none)(r:RepL H (ps'.map zab) xs'):SX H0 (upd H pp (.lst xs')) pp pb bg ps':=by
 obtain ⟨xs,e1,r1⟩:=i.xs
 obtain ⟨bs,e2,r2⟩:=i.bs
 have tk:Tups H (upd H pp (.lst xs')):=Tups.upd fun xs z=>by rw [e1] at z;cases z
 exact ⟨fun b o e=>by rw [zj (zh e hb)];exact i.sm b o e,⟨_,ze,r.keep tk⟩,⟨bs,by rw [zj (Ne.symm np)];exact e2,r2.keep tk⟩⟩
def zeq (C CN CB:Addr):Sp:=fun vs H Q E=>∃(a d:Addr) (cs:List (Int ×Th)) (n:Int) (lo hi:Th) (vl vh:V),vs=[.ref a,.int n,vl,vh]∧VS H C a d cs∧Rep H lo vl∧Rep H hi vh∧dep lo≤3∧
 ((zai lo hi=true∧∀p H',Same H H'→H p=none→H' p=some (.lst [])→Q (.ref p) H')∨
  (zai lo hi=false∧∃k res,StW cs lo hi k n [] [] 301 res∧k≤100∧(∀ps,res=.ok ps→∀p xs H',Same H H'→H p=none→H' p=some (.lst xs)→RepL H' (ps.map zab) xs→Q (.ref p) H')∧(∀b H',res=.error b→Same H H'→E (.ref (exA CN CB b)) none H')))
section
variable {P:Program}{w:World}{K:PySem.W.Frag}{mg:Str→Option Value}{base:Heap}{C CC CN CB:Addr}{x:Str}{t1 t2 t3 t4 t5 t6 t7:Tok}
theorem zfU (D:Dfn K mg "stretch" zdM ["vault","root","low","high"]) (F_is_empty:Fn P w K mg base "is_empty" 21 ["low","high"] ze9) (F_node_beneath:FnX P w K mg base "node_beneath" 4 ["vault","root","count"] (zeu C CN CB)) (F_goes_left:Fn P w K mg base "goes_left" 21 ["node","low"] zhf) (F_goes_right:Fn P w K mg base "goes_right" 21 ["node","high"] zgV) (F_refuse_sum:FnX P w K mg base "refuse_sum" 6 ["vault","node"] (zi6 C CN CB)) (F_ahead:Fn P w K mg base "ahead" 20 ["one","other"] (zbc 9))
  (g_KEY:mg "KEY" =some (.int 0 t1)) (g_WORTH:mg "WORTH" =some (.int 1 t2)) (g_LEFT:mg "LEFT" =some (.int 2 t3)) (g_RIGHT:mg "RIGHT" =some (.int 3 t4)) (g_COUNT:mg "COUNT" =some (.int 4 t5)) (g_BENEATH_NONE:mg "BENEATH_NONE" =some (.int 301 t7)) (m_len:mg "len" =none):FnX P w K mg base "stretch" 22 ["vault","root","low","high"] (zeq C CN CB):=by
 refine D.okX (k:=21) zaB (fun vs H Q E h=>?_) (fun f cdv A outer s H vs Q E hr h=>?_)
 ·obtain ⟨a,d,cs,n,lo,hi,vl,vh,rfl,_⟩:=h;rfl
 obtain ⟨a,d,cs,n,lo,hi,vx,vy,rfl,vs,rx,ry,dx,h⟩:=h
 refine ⟨_,(zc (zq (i:=4) zaB.nd rfl (Or.inl rfl) (zL zb))
 (zc (zD (zQ (zw F_is_empty hr (by omega) (by rfl) (za (pv 2) (za (pv 3) zb))))
 (zf (zl (pv 4)))
 zr)
 (zc (zq (i:=5) zaB.nd rfl (Or.inl rfl) (zL zb))
 (zc (zq (i:=6) zaB.nd rfl (Or.inl rfl) (zv (v:=.int 301) (by rfl) g_BENEATH_NONE ⟨_,rfl⟩))
 (zc (zdP PassesOwn.leaving (PW.pt (zcE (zx zdA (pv 1) zd (zt _)) (zbJ (zx zgE (zF (z8) (by rfl) m_len (by rfl) (za (pv 5) zb)) zd (zt _)))))
 (zc (zD (zx zdA (pv 1) zd (zt _))
 (zc (zq (i:=7) zaB.nd rfl (Or.inl rfl) (zO F_node_beneath hr (by omega) (by rfl) zE (za (pv 0) (za (pv 1) (za (pv 6) zb)))))
 (zc (zD (PW.pt (ze3 (zQ (zw F_goes_left hr (by omega) (by rfl) (za (pv 7) (za (pv 2) zb)))) (ze4 (zQ (zw F_goes_right hr (by omega) (by rfl) (za (pv 7) (za (pv 3) zb)))))))
 (zf (zao (zO F_refuse_sum hr (by omega) (by rfl) zE (za (pv 0) (za (pv 7) zb)))))
 zr)
 (zc (zao (zdp PySem.F.plainAttrs_list PySem.F.slot_list_append PySem.F.type_list_append zaP (pv 5) (za (pv 7) zb)))
 (zf (zq (i:=1) zaB.nd rfl (Or.inl rfl) (zcZ (zQ (zw F_goes_left hr (by omega) (by rfl) (za (pv 7) (za (pv 2) zb)))) (zz zH (pv 7) (zv (v:=.int 2) (by rfl) g_LEFT ⟨_,rfl⟩) (fun _ _=>rfl)) zd))))))
 (zc (zq (i:=7) zaB.nd rfl (Or.inl rfl) (zgA PySem.F.plainAttrs_list PySem.F.slot_list_pop PySem.F.type_list_pop zl0 (pv 5)))
 (zf (zD (zQ (zw F_goes_right hr (by omega) (by rfl) (za (pv 7) (za (pv 3) zb))))
 (zc (zD (PW.pt (zcE (zx zbl (pv 2) zJ (zt _)) (zbJ (zbg (zQ (zw F_ahead hr (by omega) (by rfl) (za (zz zH (pv 7) (zv (v:=.int 0) (by rfl) g_KEY ⟨_,rfl⟩) (fun _ _=>rfl)) (za (pv 2) zb))))))))
 (zf (zao (zdp PySem.F.plainAttrs_list PySem.F.slot_list_append PySem.F.type_list_append zaP (pv 4) (za (zP (za (zz zH (pv 7) (zv (v:=.int 0) (by rfl) g_KEY ⟨_,rfl⟩) (fun _ _=>rfl)) (za (zz zH (pv 7) (zv (v:=.int 1) (by rfl) g_WORTH ⟨_,rfl⟩) (fun _ _=>rfl)) zb))) zb))))
 zr)
 (zf (zq (i:=1) zaB.nd rfl (Or.inl rfl) (zz zH (pv 7) (zv (v:=.int 3) (by rfl) g_RIGHT ⟨_,rfl⟩) (fun _ _=>rfl)))))
 zr))))
 (zf (zq (i:=6) zaB.nd rfl (Or.inl rfl) (zz zH (pv 7) (zv (v:=.int 4) (by rfl) g_COUNT ⟨_,rfl⟩) (fun _ _=>rfl))))))
 (zf (zl (pv 4)))))))),?_⟩
 refine ⟨szl (show 0≤1000 by decide),fun pp hpp=>?_⟩
 have s1:=zo (o:=.lst []) (Same.refl H) hpp
 have e1:upd H pp (.lst []) pp=some (.lst []):=ze
 generalize upd H pp (.lst [])=H1 at s1 e1
 refine ⟨_,rfl,_,rfl,lo,hi,vx,vy,rfl,rx.keep (Same.tups s1),ry.keep (Same.tups s1),dx,fun H2 s2=>⟨_,rfl,?_⟩⟩
 have s02:Same H H2:=fun b o e=>s2 b o (s1 b o e)
 have e2:=s2 _ _ e1
 rcases h with ⟨he,q⟩ | ⟨he,K0,res,st0,hK,q,qe⟩
 ·rw [he]
  exact ifT rfl ⟨_,rfl,q pp H2 s02 hpp e2⟩
 rw [he]
 refine ifF rfl ?_
 refine ⟨szl (show 0≤1000 by decide),fun pb hpb=>?_⟩
 have s3:=zo (o:=.lst []) (Same.refl H2) hpb
 have e3:upd H2 pb (.lst []) pb=some (.lst []):=ze
 have nb:pp≠pb:=zh e2 hpb
 have hpb0:H pb=none:=by
  cases y:H pb with
  | none=>rfl
  | some o=>rw [s02 _ _ y] at hpb;cases hpb
 generalize upd H2 pb (.lst [])=H3 at s3 e3
 refine ⟨fun m σ H'=>∃(n c:Int) (bg:List Nd) (ps:List (Th ×Th)) (k7:Option V),StW cs lo hi m n bg ps c res∧bg.length+m≤K0∧ps.length+m≤K0∧σ=[some (.ref a),some (.int n),some vx,some vy,some (.ref pp),some (.ref pb),some (.int c),k7]∧SX H H' pp pb bg ps,
  ⟨K0,n,301,[],[],_,st0,by simp,by simp,rfl,⟨fun b o e=>s3 b o (s02 b o e),⟨[],s3 _ _ e2,.nil⟩,⟨[],e3,.nil⟩⟩⟩,?_⟩
 clear st0
 rintro m σ H4 ⟨n,c,bg,ps,k7,st,hb1,hb2,rfl,si⟩
 refine ⟨_,rfl,rfl,_,rfl,?_⟩
 rw [zan]
 have vs4:=vs.same si.sm
 have rx4:=rx.keep (Same.tups si.sm)
 have ry4:=ry.keep (Same.tups si.sm)
 obtain ⟨xs,ex,rxs⟩:=si.xs
 obtain ⟨bs,eb,rbs⟩:=si.bs
 have hxs:xs.length≤100:=by rw [rxs.len,List.length_map];omega
 have hbl:bs.length=bg.length:=by rw [rbs.len,List.length_map]
 rcases st.inv with ⟨hn,ebg,eres⟩ | ⟨hn,b,hb,eres⟩ | ⟨hn,nd,hb,kk,hnd⟩ | ⟨hn,nd,bg',k,ebg,em,kk,st'⟩
 ·refine ifF (by rw [decide_eq_true hn];rfl) ?_
  refine ⟨_,rfl,pb,_,rfl,.inl (SqL.of eb),_,_,rfl,rfl,_,rfl,?_⟩
  refine ifF (by show decide ((0:Int) < ((bs.length:Nat):Int))=false;rw [hbl,ebg];rfl) ?_
  exact ⟨_,rfl,q ps eres pp xs H4 si.sm hpp ex rxs⟩
 ·refine ifT (by rw [decide_eq_false hn];rfl) (ifT rfl ⟨_,fun σ' H' h=>h,?_⟩)
  refine ⟨_,rfl,rfl,_,rfl,?_⟩
  rw [zan]
  refine ifT (by rw [decide_eq_false hn];rfl) ?_
  refine ⟨_,rfl,_,rfl,_,rfl,a,d,cs,n,c,rfl,vs4,fun nd v e _=>(by rw [hb] at e;cases e),fun b' e=>?_⟩
  rw [hb] at e;cases e
  exact qe _ H4 eres si.sm
 ·refine ifT (by rw [decide_eq_false hn];rfl) (ifT rfl ⟨_,fun σ' H' h=>h,?_⟩)
  refine zaY (fun σ H'=>∃(n':Int) (bg':List Nd) (ps':List (Th ×Th)) (m':Nat) (nd:Nd) (v:V),σ=[some (.ref a),some (.int n'),some vx,some vy,some (.ref pp),some (.ref pb),some (.int c),some v]∧SX H H' pp pb bg' ps'∧StW cs lo hi m' n' bg' ps' nd.c res∧m' < m∧bg'.length+m'≤K0∧ps'.length+m'≤K0∧Rep H' nd.th v) (fun N kN=>?_) ?_
  ·refine ⟨_,rfl,rfl,_,rfl,?_⟩
   rw [zan]
   refine ifT (by rw [decide_eq_false hn];rfl) ?_
   refine ⟨_,rfl,_,rfl,_,rfl,a,d,cs,n,c,rfl,vs4,fun nd' v e rn=>?_,fun b' e=>(by rw [hb] at e;cases e)⟩
   rw [hb] at e;cases e
   have kd:=kk.dp
   dsimp only [zc3]
   refine zaY (fun σ H'=>σ=[some (.ref a),some (.int n),some vx,some vy,some (.ref pp),some (.ref pb),some (.int c),some v]∧Same H4 H'∧∃k,m=k+1∧StW cs lo hi k (if zad lo nd.k=true then nd.l else 0) (bg++ [nd]) ps nd.c res) (fun N2 k2=>?_) ?_
   ·refine ⟨_,rfl,_,rfl,v,vx,nd.k,nd.w,lo,_,_,_,rfl,rn,rx4,dx,fun H5 s5=>⟨_,rfl,?_⟩⟩
    cases z1:zad lo nd.k with
    | false=>
     rcases hnd with ⟨g1,_⟩ | ⟨_,hk⟩
     ·rw [z1] at g1;cases g1
     ·rw [z1] at hk
      rw [z1] at k2
      exact ifF rfl (ifF rfl (k2 _ _ ⟨rfl,s5,hk⟩))
    | true=>
     refine ifT rfl ⟨_,rfl,_,rfl,v,vy,nd.k,nd.w,hi,_,_,_,rfl,rn.keep (Same.tups s5),ry4.keep (Same.tups s5),kd,fun H6 s6=>⟨_,rfl,?_⟩⟩
     have s46:Same H4 H6:=fun b o e=>s6 b o (s5 b o e)
     cases z2:zav hi nd.k with
     | false=>
      rcases hnd with ⟨_,g2,_⟩ | ⟨_,hk⟩
      ·rw [z2] at g2;cases g2
      ·rw [z1] at hk
       rw [z1] at k2
       exact ifF rfl (k2 _ _ ⟨rfl,s46,hk⟩)
     | true=>
      have s06:Same H H6:=fun b o e=>s46 b o (si.sm b o e)
      refine ifT rfl ⟨_,rfl,_,rfl,a,d,cs,nd,v,rfl,vs4.same s46,rn.keep (Same.tups s46),?_⟩
      rcases hnd with ⟨_,_,b,se,eres⟩ | ⟨so,hk⟩
      ·rcases se with e | ⟨x1,e1,e⟩ | ⟨x1,y1,e1,e,ne,rfl⟩
       ·exact ⟨fun b' e'=>(by rw [e] at e';cases e';exact qe _ H6 eres s06),fun x2 b' e'=>(by rw [e] at e';cases e'),fun x2 y2 e'=>(by rw [e] at e';cases e')⟩
       ·exact ⟨fun b' e'=>(by rw [e1] at e';cases e'),fun x2 b' _ e'=>(by rw [e] at e';cases e';exact qe _ H6 eres s06),fun x2 y2 _ e'=>(by rw [e] at e';cases e')⟩
       ·refine ⟨fun b' e'=>(by rw [e1] at e';cases e'),fun x2 b' _ e'=>(by rw [e] at e';cases e'),fun x2 y2 e' e''=>?_⟩
        rw [e1] at e';cases e'
        rw [e] at e'';cases e''
        exact ⟨fun _=>qe _ H6 eres s06,fun z=>absurd z ne⟩
      ·obtain ⟨x1,y1,e1,e,he1⟩:=so z1 z2
       refine ⟨fun b' e'=>(by rw [e1] at e';cases e'),fun x2 b' _ e'=>(by rw [e] at e';cases e'),fun x2 y2 e' e''=>?_⟩
       rw [e1] at e';cases e'
       rw [e] at e'';cases e''
       rw [z1] at hk
       rw [z1] at k2
       exact ⟨fun z=>absurd he1 z,fun _=>k2 _ _ ⟨rfl,s46,hk⟩⟩
   ·rintro σ H7 ⟨rfl,s7,k,em,st'⟩
    have si7:=si.same s7
    have eb7:=s7 _ _ eb
    have rn7:=rn.keep (Same.tups s7)
    refine ⟨_,rfl,.inl ⟨rfl,_,SqL.of eb7⟩,_,rfl,pb,bs,_,rfl,rfl,eb7,Nat.lt_of_lt_of_le (show bs.length < 1000 by omega) (szl (Nat.le_refl _)),?_⟩
    have si8:=si7.setB (bg':=bg++ [nd]) nb hpb0 (bs':=bs++ [v]) (by rw [List.map_append];exact (rbs.keep (Same.tups s7)).snoc rn7)
    have tk8:Tups H7 (upd H7 pb (.lst (bs++ [v]))):=Tups.upd fun xs z=>by rw [eb7] at z;cases z
    have rn8:=rn7.keep tk8
    have rx8:=(rx4.keep (Same.tups s7)).keep tk8
    generalize upd H7 pb (.lst (bs++ [v]))=H8 at si8 tk8 rn8 rx8
    refine ⟨_,rfl,_,rfl,v,vx,nd.k,nd.w,lo,_,_,_,rfl,rn8,rx8,dx,fun H9 s9=>⟨_,rfl,?_⟩⟩
    have si9:=si8.same s9
    have rn9:=rn8.keep (Same.tups s9)
    have hln:(bg++ [nd]).length=bg.length+1:=by simp
    cases z1:zad lo nd.k with
    | true=>
     rw [z1,if_pos rfl] at st'
     obtain ⟨p,vk,vw,rfl,ea,rk,rw'⟩:=zK rn9
     exact ifT rfl ⟨_,rfl,p,_,_,_,rfl,rfl,SqT.of ea,rfl,kN _ _ ⟨nd.l,_,_,k,nd,_,rfl,si9,st',by omega,by omega,by omega,rn9⟩⟩
    | false=>
     rw [z1,if_neg Bool.false_ne_true] at st'
     exact ifF rfl (kN _ _ ⟨0,_,_,k,nd,_,rfl,si9,st',by omega,by omega,by omega,rn9⟩)
  ·rintro σ H5 ⟨n',bg',ps',m',nd',v,rfl,si',st',hm',h1,h2,rn⟩
   obtain ⟨p,vk,vw,rfl,ea,rk,rw'⟩:=zK rn
   exact ⟨_,rfl,p,_,_,_,rfl,rfl,SqT.of ea,rfl,m',hm',n',_,bg',ps',_,st',h1,h2,rfl,si'⟩
 ·have hn':n=0:=hn
  subst hn'
  refine ifF rfl ?_
  refine ⟨_,rfl,pb,_,rfl,.inl (SqL.of eb),_,_,rfl,rfl,_,rfl,?_⟩
  have hln:(bg'++ [nd]).length=bg'.length+1:=by simp
  rw [ebg] at hbl rbs hb1
  refine ifT (decide_eq_true (show (0:Int) < ((bs.length:Nat):Int) by omega)) ⟨_,fun σ' H' h=>h,?_⟩
  rw [List.map_append] at rbs
  obtain ⟨us,v,rfl,rus,rn⟩:=rbs.unsnoc
  have si5:=si.setB (bg':=bg') nb hpb0 (bs':=us) rus
  have kd:=kk.dp
  refine zaY (fun σ H'=>∃(n':Int) (bg':List Nd) (ps':List (Th ×Th)) (m':Nat) (nd:Nd) (v:V),σ=[some (.ref a),some (.int n'),some vx,some vy,some (.ref pp),some (.ref pb),some (.int c),some v]∧SX H H' pp pb bg' ps'∧StW cs lo hi m' n' bg' ps' nd.c res∧m' < m∧bg'.length+m'≤K0∧ps'.length+m'≤K0∧Rep H' nd.th v) (fun N kN=>?_) ?_
  ·refine ⟨_,rfl,rfl,_,rfl,?_⟩
   rw [zan]
   refine ifF rfl ?_
   refine ⟨_,rfl,.inl ⟨rfl,_,SqL.of eb⟩,pb,_,v,rfl,rfl,eb,by rw [List.length_append,List.getElem?_append_right (by simp)];simp,?_⟩
   rw [List.dropLast_concat]
   have tk5:Tups H4 (upd H4 pb (.lst us)):=Tups.upd fun xs z=>by rw [eb] at z;cases z
   have rn5:=rn.keep tk5
   have rx5:=rx4.keep tk5
   have ry5:=ry4.keep tk5
   generalize upd H4 pb (.lst us)=H5 at si5 tk5 rn5 rx5 ry5
   refine ⟨_,rfl,_,rfl,v,vy,nd.k,nd.w,hi,_,_,_,rfl,rn5,ry5,kd,fun H6 s6=>⟨_,rfl,?_⟩⟩
   have si6:=si5.same s6
   have rn6:=rn5.keep (Same.tups s6)
   have rx6:=rx5.keep (Same.tups s6)
   cases z1:zav hi nd.k with
   | false=>
    have hin:inB lo hi nd=false:=by unfold inB;rw [z1];rfl
    rw [z1,hin,if_neg Bool.false_ne_true,if_neg Bool.false_ne_true] at st'
    exact ifF rfl (kN _ _ ⟨0,bg',ps,k,nd,v,rfl,si6,st',by omega,by omega,by omega,rn6⟩)
   | true=>
    rw [z1,if_pos rfl] at st'
    refine ifT rfl ?_
    refine zaY (fun σ H'=>∃ps',σ=[some (.ref a),some (.int 0),some vx,some vy,some (.ref pp),some (.ref pb),some (.int c),some v]∧SX H H' pp pb bg' ps'∧Rep H' nd.th v∧StW cs lo hi k nd.r bg' ps' nd.c res∧ps'.length≤ps.length+1) (fun N2 k2=>?_) ?_
    ·obtain ⟨p,vk,vw,rfl,ea,rk,rw'⟩:=zK rn6
     obtain ⟨xs6,ex6,rxs6⟩:=si6.xs
     have hx6:xs6.length≤100:=by rw [rxs6.len,List.length_map];omega
     have hinB:∀b,(decide (lo=.non) || !zu nd.k lo)=b→inB lo hi nd=b:=fun b e=>by unfold inB;rw [z1,e];rfl
     have app:∀(H7:Hp) (s67:Same H6 H7) (h:inB lo hi nd=true) (p2:Addr),H7 p2=none→N2 [some (.ref a),some (.int 0),some vx,some vy,some (.ref pp),some (.ref pb),some (.int c),some (.ref p)] (upd (upd H7 p2 (.tup [vk,vw])) pp (.lst (xs6++ [.ref p2]))):=fun H7 s67 h p2 hp2=>by
      have rp:=(RepL.cons (rk.keep (Same.tups s67)) (.cons (rw'.keep (Same.tups s67)) .nil)).new hp2
      have s78:=zo (o:=.tup [vk,vw]) (Same.refl H7) hp2
      generalize upd H7 p2 (.tup [vk,vw])=H8 at rp s78
      have s68:Same H6 H8:=fun b o e=>s78 b o (s67 b o e)
      have si8:=si6.same s68
      have ex8:=s68 _ _ ex6
      have rxs8:=rxs6.keep (Same.tups s68)
      have tk9:Tups H8 (upd H8 pp (.lst (xs6++ [.ref p2]))):=Tups.upd fun xs z=>by rw [ex8] at z;cases z
      rw [h,if_pos rfl] at st'
      refine k2 _ _ ⟨ps++ [(nd.k,nd.w)],rfl,si8.setP nb hpp ?_,(rn6.keep (Same.tups s68)).keep tk9,st',by simp⟩
      rw [List.map_append]
      exact rxs8.snoc rp
     refine ⟨_,rfl,rfl,_,rfl,?_⟩
     rw [zb1 rx6]
     cases z2:decide (lo=.non) with
     | true=>
      have hin:=hinB true (by rw [z2];rfl)
      refine ifT rfl (ifT rfl ?_)
      exact ⟨_,rfl,.inl ⟨rfl,_,SqL.of ex6⟩,_,rfl,p,_,_,_,rfl,rfl,SqT.of ea,rfl,_,rfl,p,_,_,_,rfl,rfl,SqT.of ea,rfl,szl (show 2≤1000 by decide),fun p2 hp2=>⟨pp,xs6,_,rfl,rfl,by rw [zj (zh ex6 hp2)];exact ex6,Nat.lt_of_lt_of_le (show xs6.length < 1000 by omega) (szl (Nat.le_refl _)),app H6 (Same.refl _) hin p2 hp2⟩⟩
     | false=>
      refine ifF rfl ⟨_,rfl,p,_,_,_,rfl,rfl,SqT.of ea,rfl,_,rfl,nd.k,lo,_,_,rfl,rk,rx6,by omega,by omega,fun H7 s7=>⟨_,rfl,?_⟩⟩
      have ex7:=s7 _ _ ex6
      have ea7:=s7 _ _ ea
      cases z3:zu nd.k lo with
      | true=>
       have hin:=hinB false (by rw [z2,z3];rfl)
       rw [hin,if_neg Bool.false_ne_true] at st'
       exact ifF rfl (k2 _ _ ⟨ps,rfl,si6.same s7,rn6.keep (Same.tups s7),st',Nat.le_succ _⟩)
      | false=>
       have hin:=hinB true (by rw [z2,z3];rfl)
       refine ifT rfl ?_
       exact ⟨_,rfl,.inl ⟨rfl,_,SqL.of ex7⟩,_,rfl,p,_,_,_,rfl,rfl,SqT.of ea7,rfl,_,rfl,p,_,_,_,rfl,rfl,SqT.of ea7,rfl,szl (show 2≤1000 by decide),fun p2 hp2=>⟨pp,xs6,_,rfl,rfl,by rw [zj (zh ex7 hp2)];exact ex7,Nat.lt_of_lt_of_le (show xs6.length < 1000 by omega) (szl (Nat.le_refl _)),app H7 s7 hin p2 hp2⟩⟩
    ·rintro σ H7 ⟨ps',rfl,si7,rn7,st7,hl7⟩
     obtain ⟨p,vk,vw,rfl,ea,rk,rw'⟩:=zK rn7
     exact ⟨_,rfl,p,_,_,_,rfl,rfl,SqT.of ea,rfl,kN _ _ ⟨nd.r,bg',ps',k,nd,_,rfl,si7,st7,by omega,by omega,by omega,rn7⟩⟩
  ·rintro σ H5 ⟨n',bg'',ps',m',nd',v,rfl,si',st',hm',h1,h2,rn⟩
   obtain ⟨p,vk,vw,rfl,ea,rk,rw'⟩:=zK rn
   exact ⟨_,rfl,p,_,_,_,rfl,rfl,SqT.of ea,rfl,m',hm',n',_,bg'',ps',_,st',h1,h2,rfl,si'⟩
end
end Pv
namespace Pv
open PySem L2 PySem.NumText
abbrev zdm:Stmt:=top 18
abbrev zaZ:Stmt:=top 19
abbrev zaA:Stmt:=top 20
abbrev zax:Stmt:=top 21
theorem zgd:zm ["thing"] ["thing"] (zg zdm):=⟨rfl,rfl,rfl,by decide+kernel,rfl,by decide+kernel,by decide+kernel⟩
theorem zcT:zm ["thing","deep"] ["thing","deep"] (zg zaZ):=⟨rfl,rfl,rfl,by decide+kernel,rfl,by decide+kernel,by decide+kernel⟩
theorem zbu:zm ["parts","deep","part"] ["parts","deep"] (zg zaA):=⟨rfl,rfl,rfl,by decide+kernel,rfl,by decide+kernel,by decide+kernel⟩
theorem zaX:zm ["text","sign"] ["text"] (zg zax):=⟨rfl,rfl,rfl,by decide+kernel,rfl,by decide+kernel,by decide+kernel⟩
theorem lt1 (c k:Nat):decide ([c] < [k])=decide (c < k):=by
 by_cases h:c < k
 ·rw [decide_eq_true h];exact decide_eq_true (by simp [List.cons_lt_cons_iff,h])
 ·rw [decide_eq_false h];exact decide_eq_false (by simp [List.cons_lt_cons_iff];omega)
def zmJ:Sp:=fun _ _ _ _=>False
def zhl:Sp:=fun vs H Q _=>∃x:Str,vs=[.str x]∧(∀c∈x.cps.toList,Sign c)∧Q (.bl true) H
def ThV (v:V):Prop:=(∃i:Int,v=.int i∧ -(10 ^ 30)≤i∧i≤10 ^ 30)∨∃x:Str,v=.str x∧zgX x
def zmv:Sp:=fun vs H Q _=>∃(v:V) (d:Int),vs=[v,.int d]∧ThV v∧Q (.bl true) H
def spWT (n:Nat):Sp:=fun vs H Q _=>∃(t:Th) (v:V) (d:Nat),vs=[v,.int (d:Int)]∧Rep H t v∧Wf t∧dep t≤d∧dep t < n∧Q (.bl true) H
def spTW (n:Nat):Sp:=fun vs H Q _=>∃(ts:List Th) (v:V) (d:Nat),vs=[v,.int (d:Int)]∧Rep H (.tup ts) v∧Wf (.tup ts)∧depL ts+1≤d∧depL ts < n∧Q (.bl true) H
def zkK:Sp:=fun vs H Q _=>∃(t:Th) (v:V),vs=[v]∧Rep H t v∧Wf t∧dep t≤5∧Q (.bl true) H
def zl4:Sp:=fun vs H Q _=>∃v:V,vs=[v]∧ThV v∧Q (.bl true) H
section
variable {P:Program}{w:World}{K:PySem.W.Frag}{mg:Str→Option Value}{base:Heap}{t1 t2 t3 t4 t5:Tok}
theorem zix (D:Dfn K mg "has_signs_of_things" zax ["text"]) (m_ord:mg "ord" =none) (g_PERCENT:mg "PERCENT" =some (.int 37 t5)):Fn P w K mg base "has_signs_of_things" 1 ["text"] zhl:=by
 refine D.ok (k:=0) zaX (fun vs H Q E h=>?_) (fun f cdv A outer s H vs Q E hr h=>?_)
 ·obtain ⟨x,rfl,_⟩:=h;rfl
 obtain ⟨x,rfl,hx,q⟩:=h
 refine ⟨_,(zc (zbm PassesOwn.never rfl (ziE (pv 0)) (zX (i:=1) zaX.nd rfl (Or.inl rfl))
 (zf (zD (PW.pt (zcE (zbg (zjm zeF zeF z7 (pv 1) z7)) (zbJ (zx zaO (zF (zfo) (by rfl) m_ord (by rfl) (za (pv 1) zb)) (zv (v:=.int 37) (by rfl) g_PERCENT ⟨_,rfl⟩) (zt _)))))
 (zf (zl zal))
 zr)))
 (zf (zl zal))),?_⟩
 refine ⟨_,rfl,x,rfl,?_⟩
 refine zhc (z:=x) (fun i σ H'=>∃k,σ=[some (.str x),k]∧H'=H) ⟨_,rfl,rfl⟩ ?_ ?_
 ·rintro i c σ H' hc ⟨k,rfl,rfl⟩
  have hs:Sign c:=hx c (by
   have:=(Array.getElem?_toList (xs:=x.cps) (i:=i)).trans hc
   exact List.mem_of_getElem? this)
  obtain ⟨h1,h2,h3⟩:=hs
  have e1:(!decide ((⟨#[c]⟩:Str).cps.toList < (Str.ofString " ").cps.toList))=true:=by
   show (!decide ([c] < [32]))=true
   rw [lt1,decide_eq_false (by omega)];rfl
  have e2:(!decide ((Str.ofString "~").cps.toList < (⟨#[c]⟩:Str).cps.toList))=true:=by
   show (!decide ([126] < [c]))=true
   rw [lt1,decide_eq_false (by omega)];rfl
  refine ⟨_,rfl,_,_,rfl,rfl,_,rfl,ifT e1 ?_⟩
  refine ⟨_,_,rfl,rfl,_,rfl,?_⟩
  refine ifF (by rw [e2];rfl) ?_
  refine ⟨_,rfl,_,rfl,rfl,rfl,_,rfl,?_⟩
  rw [zan]
  refine ifF (decide_eq_false ?_) ⟨_,rfl,rfl⟩
  show¬((c:Int)=37)
  omega
 ·rintro σ H' ⟨k,rfl,rfl⟩
  exact q
theorem zhv {n:Nat}(D:Dfn K mg "is_tuple_within" zaA ["parts","deep"]) (F_is_thing_within:Fn P w K mg base "is_thing_within" (2 * n+2) ["thing","deep"] (spWT n)) (m_len:mg "len" =none) (g_MOST_PARTS:mg "MOST_PARTS" =some (.int 40 t2)):Fn P w K mg base "is_tuple_within" (2 * n+3) ["parts","deep"] (spTW n):=by
 refine D.ok (k:=2 * n+2) zbu (fun vs H Q E h=>?_) (fun f cdv A outer s H vs Q E hr h=>?_)
 ·obtain ⟨ts,v,d,rfl,_⟩:=h;rfl
 obtain ⟨ts,v,d,rfl,rv,hw,hd,hdn,q⟩:=h
 cases rv with
 | @tup a xs _ e l h=>
 have h40:ts.length≤40:=hw.1
 obtain ⟨d',rfl⟩:∃d',d=d'+1:=⟨d - 1,by omega⟩
 have ed:((d'+1:Nat):Int) - 1=(d':Int):=by omega
 refine ⟨_,(zc (zD (PW.pt (zcE (zx zaO (pv 1) zd (zt _)) (zbJ (zx zgE (zF (z8) (by rfl) m_len (by rfl) (za (pv 0) zb)) (zv (v:=.int 40) (by rfl) g_MOST_PARTS ⟨_,rfl⟩) (zt _)))))
 (zf (zl zal))
 zr)
 (zc (zbm PassesOwn.never rfl (zjD (pv 0)) (zX (i:=2) zbu.nd rfl (Or.inl rfl))
 (zf (zD (zbg (zQ (zw F_is_thing_within hr (by omega) (by rfl) (za (pv 2) (za (zA zbK (pv 1) zd) zb)))))
 (zf (zl zal))
 zr)))
 (zf (zl zal)))),?_⟩
 refine ⟨_,rfl,rfl,_,rfl,?_⟩
 rw [zan]
 refine ifF (decide_eq_false (by omega)) ?_
 refine ⟨_,rfl,a,xs,rfl,.inr (SqT.of e),_,_,rfl,rfl,_,rfl,ifF (decide_eq_false (by omega)) ?_⟩
 refine ⟨_,rfl,a,rfl,⟨_,SqT.of e⟩,?_⟩
 refine zgI (xs:=xs) (fun i σ H'=>∃kk,σ=[some (.ref a),some (.int ((d'+1:Nat):Int)),kk]∧H'=H) ⟨_,rfl,rfl⟩ ?_ ?_ ?_
 ·rintro i σ H' hi ⟨kk,rfl,rfl⟩
  exact SqT.of e
 ·rintro i x σ H' hx ⟨kk,rfl,rfl⟩
  have hil:i < ts.length:=by rw [←l];exact (List.getElem?_eq_some_iff.mp hx).1
  have ht:ts[i]? =some ts[i]:=List.getElem?_eq_getElem hil
  have hdi:=zbQ ht
  refine ⟨_,rfl,_,rfl,_,_,rfl,rfl,ts[i],x,d',?_,h i x _ hx ht,hw.2.get ht,by omega,by omega,?_⟩
  ·show [x,V.int (((d'+1:Nat):Int) - 1)]=_
   rw [ed]
  ·exact ⟨_,rfl,ifF rfl ⟨some x,rfl,rfl⟩⟩
 ·rintro σ H' ⟨kk,rfl,rfl⟩
  exact q
theorem zes (D:Dfn K mg "is_thing_within" zaZ ["thing","deep"]) (Dt:Dfn K mg "is_tuple_within" zaA ["parts","deep"]) (F_is_whole:Fn P w K mg base "is_whole" 1 ["value"] zhm) (F_has_signs_of_things:Fn P w K mg base "has_signs_of_things" 1 ["text"] zhl)
  (m_isinstance:mg "isinstance" =none) (m_tuple:mg "tuple" =none) (m_str:mg "str" =none) (m_int:mg "int" =none) (m_len:mg "len" =none) (m_abs:mg "abs" =none) (g_MOST_SIGNS:mg "MOST_SIGNS" =some (.int 60 t1)) (g_MOST_PARTS:mg "MOST_PARTS" =some (.int 40 t2)):
  ∀n:Nat,Fn P w K mg base "is_thing_within" (2 * n+2) ["thing","deep"] (spWT n)
 | 0=>D.never fun vs H Q E h=>by
   obtain ⟨t,v,d,_,_,_,_,h1,_⟩:=h
   omega
 | n+1=>by
  have F_is_tuple_within:=zhv Dt (zes D Dt F_is_whole F_has_signs_of_things m_isinstance m_tuple m_str m_int m_len m_abs g_MOST_SIGNS g_MOST_PARTS n) m_len g_MOST_PARTS
  refine D.ok (k:=2 * n+3) zcT (fun vs H Q E h=>?_) (fun f cdv A outer s H vs Q E hr h=>?_)
  ·obtain ⟨t,v,d,rfl,_⟩:=h;rfl
  obtain ⟨t,v,d,rfl,rv,hw,hd,hdn,q⟩:=h
  refine ⟨_,(zc (zD (zQ (zF (zU) (by rfl) m_isinstance (by rfl) (za (pv 0) (za (zaz (v:=.ty "tuple") (by rfl) m_tuple (by rfl) rfl) zb))))
 (zf (zl (zw F_is_tuple_within hr (by omega) (by rfl) (za (pv 0) (za (pv 1) zb)))))
 zr)
 (zc (zD (zQ (zF (zU) (by rfl) m_isinstance (by rfl) (za (pv 0) (za (zaz (v:=.ty "str") (by rfl) m_str (by rfl) rfl) zb))))
 (zf (zl (zbz (zS zgQ (zF (zba) (by rfl) m_len (by rfl) (za (pv 0) zb)) (zv (v:=.int 60) (by rfl) g_MOST_SIGNS ⟨_,rfl⟩) (zt _)) (zbo (zw F_has_signs_of_things hr (by omega) (by rfl) (za (pv 0) zb))))))
 zr)
 (zc (zD (zQ (zw F_is_whole hr (by omega) (by rfl) (za (pv 0) zb)))
 (zf (zl (zS zgQ (zF (zih) (by rfl) m_abs (by rfl) (za (pv 0) zb)) (zA zcQ zd zd) (zt _))))
 zr)
 (zf (zl (zS zbl (pv 0) zJ (zt _))))))),?_⟩
  cases rv with
  | non=>
   refine ⟨_,rfl,_,_,_,_,rfl,.non,rfl,_,rfl,ifF rfl ?_⟩
   refine ⟨_,rfl,_,_,_,_,rfl,.non,rfl,_,rfl,ifF rfl ?_⟩
   refine ⟨_,rfl,.inr ⟨rfl,_,rfl,ifF rfl ?_⟩⟩
   exact ⟨_,rfl,rfl,q⟩
  | int i=>
   have h0:=hw.1
   have h1:=hw.2
   refine ⟨_,rfl,_,_,_,_,rfl,.int i,rfl,_,rfl,ifF rfl ?_⟩
   refine ⟨_,rfl,_,_,_,_,rfl,.int i,rfl,_,rfl,ifF rfl ?_⟩
   refine ⟨_,rfl,.inl ⟨i,rfl,_,rfl,ifT rfl ?_⟩⟩
   refine ⟨_,rfl,i,rfl,_,_,rfl,rfl,⟨by decide,by decide,by decide⟩,_,_,rfl,rfl,?_⟩
   have e:decide ((if i < 0 then -i else i)≤(10:Int) ^ (30:Int).toNat)=true:=decide_eq_true (by
    show (if i < 0 then -i else i)≤(10:Int) ^ 30
    split <;> omega)
   show Q (.bl (decide ((if i < 0 then -i else i)≤(10:Int) ^ (30:Int).toNat))) H
   rw [e]
   exact q
  | str x=>
   have hl:x.length≤60:=hw.1
   refine ⟨_,rfl,_,_,_,_,rfl,.str x,rfl,_,rfl,ifF rfl ?_⟩
   refine ⟨_,rfl,_,_,_,_,rfl,.str x,rfl,_,rfl,ifT rfl ?_⟩
   refine ⟨_,rfl,x,rfl,szl (by omega),_,_,rfl,rfl,_,rfl,ifT (decide_eq_true (by omega)) ?_⟩
   exact ⟨_,rfl,x,rfl,hw.2,q⟩
  | @tup a xs ts e l h=>
   refine ⟨_,rfl,_,_,_,_,rfl,.tup e,rfl,_,rfl,ifT rfl ?_⟩
   have hd':depL ts+1≤d:=hd
   have hdn':depL ts+1 < n+1:=hdn
   exact ⟨_,rfl,_,rfl,ts,_,d,rfl,.tup e l h,hw,hd',by omega,q⟩
theorem zlJ (D:Dfn K mg "is_thing" zdm ["thing"]) (F_is_thing_within:Fn P w K mg base "is_thing_within" 14 ["thing","deep"] (spWT 6)) (g_MOST_DEEP:mg "MOST_DEEP" =some (.int 5 t3)):Fn P w K mg base "is_thing" 15 ["thing"] zkK:=by
 refine D.ok (k:=14) zgd (fun vs H Q E h=>?_) (fun f cdv A outer s H vs Q E hr h=>?_)
 ·obtain ⟨t,v,rfl,_⟩:=h;rfl
 obtain ⟨t,v,rfl,rv,hw,hd,q⟩:=h
 exact ⟨_,(zf (zl (zw F_is_thing_within hr (by omega) (by rfl) (za (pv 0) (za (zv (v:=.int 5) (by rfl) g_MOST_DEEP ⟨_,rfl⟩) zb))))),⟨_,rfl,t,v,5,rfl,rv,hw,hd,by omega,q⟩⟩
end
end Pv
namespace L2
open PySem PySem.Spec PyProof.Rows Px
structure MkrX (P:Program)(w:World)(K:PySem.W.Frag)(mg:Str→Option Value)(base:Heap)(x:Str)(C:Addr)(k:Nat)(ps:List Str)(sp:Sp):Prop where
 ex:∃f fd,FnOk P w K mg base (CX1 P w) k f fd ps sp∧Binds K fd ps []∧Mk K C f∧mg x=some (.ref C)
section
variable {P:Program}{w:World}{K:PySem.W.Frag}{mg:Str→Option Value}{base:Heap}{x qual:Str}{C:Addr}{st:Stmt}{ps N:List Str}{sp:Sp}{k:Nat}
theorem Mkd.okX (D:Mkd K mg x C qual st ps)(S:zm N ps (zg st))(len:∀vs H Q E,sp vs H Q E→vs.length=ps.length)
  (hbody:∀(f:Addr) (cdv:Value) (A:Around) (outer:List Env) (s:Shared) (H:Hp) (vs:List V) (Q:VK) (E:XK),Room k (A.deeper (envOfC qual (zg st) s.heap.objs.size f cdv))→sp vs H Q E→
   ∃t,PSs (cxOf (CX1 P w) P w K mg base N qual (zg st) f cdv A outer s H E) (zN st) t∧t {nx:=fun _ H'=>Q .non H',rt:=Q} (start N vs) H):MkrX P w K mg base x C (k+1) ps sp:=by
 obtain ⟨f,fd,F,b,mk,mm⟩:=D.ex
 exact ⟨f,fd,F.okX S len (fun cdv A outer s H vs Q E hr h=>hbody f cdv A outer s H vs Q E hr h),b,mk,mm⟩
end
def zm9 (C:Addr)(sp:Sp)(E:St→XK)(t:TA):TE:=fun σ H Q=>t σ H fun vs H1=>∀x dx,H1 x=none→H1 dx=none→dx≠x→
 sp (.ref x::vs) (upd (upd H1 dx (.own x)) x (.ins C dx [])) (fun v H2=>v=.non∧Q (.ref x) H2) (E σ)
section
variable {X:Cx}{CX:CXT}{x:Str}{C f:Addr}{fd:FuncData}{ps:List Str}{sp:Sp}{k k':Nat}{e:Expr}{es:List Expr}{t:TA}{p pos:Pos}{E:XK}{ES:St→XK}
end
section
variable {X:Cx}{K:PySem.W.Frag}{o e:Expr}{es:List Expr}{to:TE}{t:TA}{name:Str}{apos cpos:Pos}{T id:String}{r:V→List V→Hp→VK→Prop}
theorem zbE (h:X.K=K):zaW X (.builtin "isinstance") (zje K):=h ▸ zfd
theorem zlW (h:X.K=K)(pa:PlainAttrs T)(slot:Slot T name id)(hty:typeOf (.builtin id)=pure (.type "method_descriptor")) (hm:MtR X id r) (ho:PE X o to) (ha:PA X (e::es) t)
  (hbase:attributeBase o name X.env (eval o X.env)=eval o X.env:=by rfl)
  (hfew:((backTo cpos (starEach (e::es) X.env)).all (fun x=>!x.1) && (backToKw cpos (keywordEach [] X.env)).all (fun x=>x.1.isSome)
   && decide ((e::es).length+([]:List Keyword).length+(if ([]:List Keyword).isEmpty then 0 else 1) < 30))=true:=by rfl)
  (hline:(apos.endLine==cpos.line)=true:=by rfl) (hs:starEach (e::es) X.env=(false,eval e X.env)::starEach es X.env:=by rfl) (hplain:(backTo cpos (starEach es X.env)).any (·.1)=false:=by rfl):
  PE X (.Call (.Attribute o name apos) (e::es) [] cpos) (tBM K T r to t):=h ▸ zdp pa slot hty hm ho ha hbase hfew hline hs hplain
end
end L2
namespace Pv
open PySem L2
abbrev zas:Stmt:=inClass (top 27) 0
theorem zbj:zm ["self","paper","thing"] ["self","paper"] (zg zas):=⟨rfl,rfl,rfl,by decide+kernel,rfl,by decide+kernel,by decide+kernel⟩
structure G5 (t:Th):Prop where
 wf:Wf t
 dp:dep t≤5
 nd:nodes t≤80
theorem G5.good {t:Th}(g:G5 t):Good t:=⟨g.wf,Nat.le_trans g.dp (by decide),g.nd⟩
def zZ (ts:List Th):List (Int ×Th):=ts.foldl (fun cs t=>addT cs (zk t) t) []
theorem zbd {ts:List Th}{i:Nat}(h:i < ts.length):zZ (ts.take (i+1))=addT (zZ (ts.take i)) (zk ts[i]) ts[i]:=by
 unfold zZ
 rw [List.take_add_one,List.getElem?_eq_getElem h,List.foldl_append]
 rfl
theorem ze6 {ts:List Th}(g:∀t∈ts,G5 t):∀i,i≤ts.length→GoodC (zZ (ts.take i))
 | 0,_=>GoodC.nil
 | i+1,h=>by
  rw [zbd (show i < ts.length by omega)]
  exact (ze6 g i (by omega)).add (g _ (List.getElem_mem (by omega))).good rfl
theorem zdy (ts:List Th):∀i,i≤ts.length→(zZ (ts.take i)).length≤i
 | 0,_=>Nat.le_refl _
 | i+1,h=>by
  rw [zbd (show i < ts.length by omega)]
  have:=ziL (zZ (ts.take i)) (zk ts[i]) ts[i]
  have:=zdy ts i (by omega)
  omega
def zmj (ts:List Th):Prop:=∀t∈ts,∀u∈ts,zk t=zk u→t=u
def ClS (CC:Addr)(H:Hp)(E:XK):Prop:=∀(t1 t2:Th) (v1 v2:V) (H':Hp) (x:Addr),Same H H'→Rep H' t1 v1→Rep H' t2 v2→Good t1→Good t2→t1≠t2→zk t1=zk t2→H' x=some (xdO x [("one",v1),("other",v2)])→E (.ref CC) (some x) H'
theorem Cl.s {CC:Addr}{H:Hp}{E:XK}(h:Cl CC E):ClS CC H E:=fun t1 t2 v1 v2 H' x _=>h t1 t2 v1 v2 H' x
def zi4 (C CC:Addr):Sp:=fun vs H Q E=>∃(a d:Addr) (cs:List (Int ×Th)) (t:Th) (v:V),vs=[.ref a,v]∧VS H C a d cs∧cs.length≤1000000∧Rep H t v∧Good t∧ClS CC H E∧
 ∀H',Fr1 d H H'→Fits cs (zk t) t→VS H' C a d (addT cs (zk t) t)→Q (.int (zk t)) H'
theorem zkl {P:Program}{w:World}{K:PySem.W.Frag}{mg:Str→Option Value}{base:Heap}{C CC:Addr}(M:Mt P w K mg base (CX1 P w) C "lay" 14 ["self","thing"] (zkF C CC)):Mt P w K mg base (CX1 P w) C "lay" 14 ["self","thing"] (zi4 C CC):=Mt.imp M fun vs H Q E h=>by
 obtain ⟨a,d,cs,t,v,rfl,vs,hl,rt,gt,cl,q⟩:=h
 obtain ⟨kv,vo,dr⟩:=vs.vo
 refine ⟨a,d,kv,t,v,rfl,vo,dr.laidOk vs.gc.gd,by rw [dr.len];exact hl,rt,gt,fun H' s alike=>?_,fun t1 v1 H' s e1 r1 g1 se ne H2 x s2 ex=>?_⟩
 ·have ft:Fits cs (zk t) t:=by
   cases z:zC cs (zk t) with
   | none=>exact .inl z
   | some u=>
    obtain ⟨y,ey,ry⟩:=dr.some z
    rw [alike u y ey ry] at z
    exact .inr z
  have ed':=s _ _ vo.di
  have tk:Tups H (upd H' d (.dK (putK kv (.inl (zk t)) v))):=(Same.tups s).trans (Tups.upd fun xs z=>by rw [ed'] at z;cases z)
  have fr:Fr1 d H (upd H' d (.dK (putK kv (.inl (zk t)) v))):=fun b o n e=>by rw [zj n];exact s b o e
  obtain ⟨⟨dx,fs,eo,fl⟩,ed⟩:=id vo
  exact q _ fr ft ⟨⟨_,⟨⟨dx,fs,fr _ _ (zaS eo ed (by intro z;cases z)) eo,fl⟩,ze⟩,(dr.keep tk).add (rt.keep tk) ft vs.gc.nd⟩,vs.gc.add gt rfl⟩
 ·exact cl t1 t v1 v H2 x (fun b o e=>s2 b o (s b o e)) (r1.keep (Same.tups s2)) (rt.keep ((Same.tups s).trans (Same.tups s2))) g1 gt ne se ex
def Held (cs:List (Int ×Th))(ts:List Th):Prop:=∀t∈ts,zC cs (zk t)=some t
theorem Held.two {cs:List (Int ×Th)}{ts:List Th}(h:Held cs ts):zmj ts:=fun t ht u hu e=>by
 have h1:=h t ht
 rw [e,h u hu] at h1
 exact (Option.some.inj h1).symm
def spWI (W CC:Addr):Sp:=fun vs H Q E=>∃(a pp dx:Addr) (pvs:List V) (ts:List Th),vs=[.ref a,.ref pp]∧H a=some (.ins W dx [])∧H pp=some (.lst pvs)∧RepL H ts pvs∧ts.length≤500∧(∀t∈ts,G5 t)∧(∀H',(∀b o,b≠a→H b=some o→H' b=some o)→ClS CC H' E)∧
 ∀(d:Addr) (H':Hp),(∀b o,b≠a→H b=some o→H' b=some o)→VS H' W a d (zZ ts)→Held (zZ ts) ts→Q .non H'
section
variable {P:Program}{w:World}{K:PySem.W.Frag}{mg:Str→Option Value}{base:Heap}{W CC CB:Addr}{x:Str}
theorem ziK (D:Kdf K mg "Vault" "__init__" "Vault.__init__" zaK ["self"]) (c:Cls K W) (nl:zy K W "laid"):Kfn P w K mg base "Vault" "__init__" 1 ["self"] (zgS W):=by
 refine D.ok (k:=0) zdl (fun vs H Q E h=>?_) (fun f cdv A outer s H vs Q E hr h=>?_)
 ·obtain ⟨a,dx,rfl,_⟩:=h;rfl
 obtain ⟨a,dx,rfl,ea,q⟩:=h
 refine ⟨_,(zf (zbB (pv 0) zjx (by rfl))),?_⟩
 intro d hd
 exact ⟨_,rfl,a,W,dx,[],rfl,by rw [zj (zh ea hd)];exact ea,c,nl,by decide,q d hd⟩
theorem zma (D:Mkd K mg x W "Witness.__init__" zas ["self","paper"]) (G_Vault___init__:Kfn P w K mg base "Vault" "__init__" 1 ["self"] (zgS W)) (F_is_thing:Fn P w K mg base "is_thing" 15 ["thing"] zkK) (M_lay:Mt P w K mg base (CX1 P w) W "lay" 14 ["self","thing"] (zi4 W CC)) (X_BadThing:XP K mg "BadThing" CB) (c_W:Cls K W):
  MkrX P w K mg base x W 16 ["self","paper"] (spWI W CC):=by
 refine D.okX (k:=15) zbj (fun vs H Q E h=>?_) (fun f cdv A outer s H vs Q E hr h=>?_)
 ·obtain ⟨a,pp,dx,pvs,ts,rfl,_⟩:=h;rfl
 obtain ⟨a,pp,dx,pvs,ts,rfl,ea,epp,rp,hl,hg,cl,q⟩:=h
 refine ⟨_,(zc (zao (zlM G_Vault___init__ hr (by omega) (by rfl) (za (pv 0) zb)))
 (zf (zbm PassesOwn.leaving rfl (zcz (pv 1)) (zX (i:=2) zbj.nd rfl (Or.inl rfl))
 (zc (zD (zbg (zQ (zw F_is_thing hr (by omega) (by rfl) (za (pv 2) zb))))
 (zf (zcd zcx rfl (zgL X_BadThing (by rfl) (za z7 zb))))
 zr)
 (zf (zao (zhi (pv 0) c_W M_lay hr (by omega) zE (za (pv 2) zb)))))))),?_⟩
 refine ⟨_,rfl,a,dx,rfl,ea,fun d hd=>?_⟩
 have ad:a≠d:=zh ea hd
 have f0:∀b o,b≠a→H b=some o→upd (upd H d (.dK [])) a (.ins W dx [("laid",.ref d)]) b=some o:=fun b o n e=>by rw [zj n,zj (zh e hd)];exact e
 have ea0:upd (upd H d (.dK [])) a (.ins W dx [("laid",.ref d)]) a=some (.ins W dx [("laid",.ref d)]):=ze
 have ed0:upd (upd H d (.dK [])) a (.ins W dx [("laid",.ref d)]) d=some (.dK []):=by rw [zj ad.symm];exact ze
 generalize upd (upd H d (.dK [])) a (.ins W dx [("laid",.ref d)])=H0 at f0 ea0 ed0
 have pa:pp≠a:=zaS epp ea (by intro z;cases z)
 have epp0:=f0 _ _ pa epp
 have tk0:Tups H H0:=fun b xs e=>f0 b _ (zaS e ea (by intro z;cases z)) e
 have rp0:=rp.keep tk0
 have hpv:=rp.len
 have vs0:VS H0 W a d (zZ (ts.take 0)):=⟨⟨[],⟨⟨dx,_,ea0,zkZ d⟩,ed0⟩,.nil⟩,GoodC.nil⟩
 refine ⟨_,rfl,pp,rfl,⟨_,SqL.of epp0⟩,?_⟩
 refine zcv (xs:=pvs) (fun i σ H'=>∃(k2:Option V),σ=[some (.ref a),some (.ref pp),k2]∧Fr1 d H0 H'∧VS H' W a d (zZ (ts.take i))∧Held (zZ (ts.take i)) (ts.take i)) ⟨_,rfl,Fr1.refl _ _,vs0,fun t h=>by cases h⟩ ?_ ?_ ?_
 ·rintro i σ H' _ ⟨k2,rfl,f1,v1,_⟩
  exact SqL.of (vs0.lst f1 epp0)
 ·rintro i y σ H' hy ⟨k2,rfl,f1,v1,h1⟩
  have hil:i < ts.length:=by rw [←hpv];exact (List.getElem?_eq_some_iff.mp hy).1
  have ht:ts[i]? =some ts[i]:=List.getElem?_eq_getElem hil
  have ry:=(rp0.at i y _ hy ht).keep (vs0.tups f1)
  have g:=hg ts[i] (List.getElem_mem hil)
  have ea1:=f1 _ _ ad ea0
  have ln:=zdy ts i (by omega)
  refine ⟨_,rfl,ts[i],y,rfl,ry,g.wf,g.dp,_,rfl,ifF rfl ?_⟩
  refine ⟨_,rfl,a,dx,_,rfl,ea1,(zkZ d).n2,_,rfl,a,d,_,ts[i],y,rfl,v1,by omega,ry,g.good,cl H' (fun b o n e=>f1 b o (zh e hd) (f0 b o n e)),fun H2 f2 ft v2=>?_⟩
  refine ⟨_,rfl,f1.trans f2,by rw [zbd hil];exact v2,?_⟩
  rw [zbd hil]
  intro t ht'
  rw [List.take_add_one,ht] at ht'
  rcases List.mem_append.mp ht' with h | h
  ·exact zh4 (h1 t h)
  ·have e:t=ts[i]:=by simpa using h
   rw [e]
   exact zfT ft
 ·rintro σ H' ⟨k2,rfl,f1,v1,h1⟩
  rw [hpv,List.take_length] at v1 h1
  exact q d H' (fun b o n e=>f1 b o (zh e hd) (f0 b o n e)) v1 h1
end
end Pv
namespace Pv
open PySem L2
inductive NthW (cs:List (Int ×Th)):Nat→Int→Int→Int→Except Bool Th→Prop
 | nil {m i:Int}:NthW cs 0 0 m i (.ok .non)
 | bad {n m i:Int} {b:Bool}:n≠0→ben cs n m=.error b→NthW cs 0 n m i (.error b)
 | far {n m i:Int} {nd:Nd}:n≠0→ben cs n m=.ok nd→nd.c≤i→NthW cs 0 n m i (.ok .non)
 | badL {n m i:Int} {nd:Nd} {b:Bool}:n≠0→ben cs n m=.ok nd→i < nd.c→zV cs nd.l nd.c=.error b→NthW cs 0 n m i (.error b)
 | own {n m i:Int} {nd:Nd}:n≠0→ben cs n m=.ok nd→i < nd.c→zV cs nd.l nd.c=.ok i→NthW cs 0 n m i (.ok (zab (nd.k,nd.w)))
 | left {t:Nat} {n m i c:Int} {nd:Nd} {r:Except Bool Th}:n≠0→ben cs n m=.ok nd→i < nd.c→zV cs nd.l nd.c=.ok c→i < c→NthW cs t nd.l nd.c i r→NthW cs (t+1) n m i r
 | right {t:Nat} {n m i c:Int} {nd:Nd} {r:Except Bool Th}:n≠0→ben cs n m=.ok nd→i < nd.c→zV cs nd.l nd.c=.ok c→c < i→NthW cs t nd.r nd.c (i - c - 1) r→NthW cs (t+1) n m i r
theorem NthW.inv {cs:List (Int ×Th)}{t:Nat}{n m i:Int}{r:Except Bool Th}(h:NthW cs t n m i r):(n=0∧r=.ok .non)∨(n≠0∧∃b,ben cs n m=.error b∧r=.error b)∨
  (n≠0∧∃nd,ben cs n m=.ok nd∧((nd.c≤i∧r=.ok .non)∨(i < nd.c∧((∃b,zV cs nd.l nd.c=.error b∧r=.error b)∨(∃c,zV cs nd.l nd.c=.ok c∧
   ((i=c∧r=.ok (zab (nd.k,nd.w)))∨(i < c∧∃t',t=t'+1∧NthW cs t' nd.l nd.c i r)∨(c < i∧∃t',t=t'+1∧NthW cs t' nd.r nd.c (i - c - 1) r))))))):=by
 cases h with
 | nil=>exact .inl ⟨rfl,rfl⟩
 | bad h e=>exact .inr (.inl ⟨h,_,e,rfl⟩)
 | far h e c=>exact .inr (.inr ⟨h,_,e,.inl ⟨c,rfl⟩⟩)
 | badL h e c s=>exact .inr (.inr ⟨h,_,e,.inr ⟨c,.inl ⟨_,s,rfl⟩⟩⟩)
 | own h e c s=>exact .inr (.inr ⟨h,_,e,.inr ⟨c,.inr ⟨_,s,.inl ⟨rfl,rfl⟩⟩⟩⟩)
 | left h e c s l w=>exact .inr (.inr ⟨h,_,e,.inr ⟨c,.inr ⟨_,s,.inr (.inl ⟨l,_,rfl,w⟩)⟩⟩⟩)
 | right h e c s l w=>exact .inr (.inr ⟨h,_,e,.inr ⟨c,.inr ⟨_,s,.inr (.inr ⟨l,_,rfl,w⟩)⟩⟩⟩)
def zjv (C CN CB:Addr):Sp:=fun vs H Q E=>∃(a d:Addr) (cs:List (Int ×Th)) (n i:Int) (t:Nat) (r:Except Bool Th),vs=[.ref a,.int n,.int i]∧VS H C a d cs∧0≤i∧NthW cs t n 301 i r∧
 (∀x v H',r=.ok x→Same H H'→Rep H' x v→Q v H')∧(∀b H',r=.error b→Same H H'→E (.ref (exA CN CB b)) none H')
section
variable {P:Program}{w:World}{K:PySem.W.Frag}{mg:Str→Option Value}{base:Heap}{C CC CN CB:Addr}{x:Str}{t1 t2 t3 t4 t5 t6 t7:Tok}
theorem zj8 (D:Dfn K mg "nth" snth ["vault","root","number"]) (F_node_beneath:FnX P w K mg base "node_beneath" 4 ["vault","root","count"] (zeu C CN CB)) (F_size_beneath:FnX P w K mg base "size_beneath" 5 ["vault","root","count"] (zcw C CN CB)) (g_KEY:mg "KEY" =some (.int 0 t1)) (g_WORTH:mg "WORTH" =some (.int 1 t2)) (g_LEFT:mg "LEFT" =some (.int 2 t3)) (g_RIGHT:mg "RIGHT" =some (.int 3 t4)) (g_COUNT:mg "COUNT" =some (.int 4 t5)) (g_BENEATH_NONE:mg "BENEATH_NONE" =some (.int 301 t7)):
  FnX P w K mg base "nth" 6 ["vault","root","number"] (zjv C CN CB):=by
 refine D.okX (k:=5) zdC (fun vs H Q E h=>?_) (fun f cdv A outer s H vs Q E hr h=>?_)
 ·obtain ⟨a,d,cs,n,i,t,r,rfl,_⟩:=h;rfl
 obtain ⟨a,d,cs,n,i,t,r,rfl,vs,hi,nw,q,qe⟩:=h
 refine ⟨_,(zc (zD (zx zek (pv 2) zd (zt _))
 (zf (zl zJ))
 zr)
 (zc (zq (i:=3) zdC.nd rfl (Or.inl rfl) (zv (v:=.int 301) (by rfl) g_BENEATH_NONE ⟨_,rfl⟩))
 (zc (zdP PassesOwn.leaving (zx zdA (pv 1) zd (zt _))
 (zc (zq (i:=4) zdC.nd rfl (Or.inl rfl) (zO F_node_beneath hr (by omega) (by rfl) zE (za (pv 0) (za (pv 1) (za (pv 3) zb)))))
 (zc (zq (i:=3) zdC.nd rfl (Or.inl rfl) (zz zH (pv 4) (zv (v:=.int 4) (by rfl) g_COUNT ⟨_,rfl⟩) (fun _ _=>rfl)))
 (zc (zD (zx zjr (pv 2) (pv 3) (zt _))
 (zf (zl zJ))
 zr)
 (zc (zq (i:=5) zdC.nd rfl (Or.inl rfl) (zO F_size_beneath hr (by omega) (by rfl) zE (za (pv 0) (za (zz zH (pv 4) (zv (v:=.int 2) (by rfl) g_LEFT ⟨_,rfl⟩) (fun _ _=>rfl)) (za (pv 3) zb)))))
 (zc (zD (zx zaO (pv 2) (pv 5) (zt _))
 (zf (zl (zP (za (zz zH (pv 4) (zv (v:=.int 0) (by rfl) g_KEY ⟨_,rfl⟩) (fun _ _=>rfl)) (za (zz zH (pv 4) (zv (v:=.int 1) (by rfl) g_WORTH ⟨_,rfl⟩) (fun _ _=>rfl)) zb)))))
 zr)
 (zf (zD (zx zek (pv 2) (pv 5) (zt _))
 (zf (zq (i:=1) zdC.nd rfl (Or.inl rfl) (zz zH (pv 4) (zv (v:=.int 2) (by rfl) g_LEFT ⟨_,rfl⟩) (fun _ _=>rfl))))
 (zc (zq (i:=1) zdC.nd rfl (Or.inl rfl) (zz zH (pv 4) (zv (v:=.int 3) (by rfl) g_RIGHT ⟨_,rfl⟩) (fun _ _=>rfl)))
 (zf (zq (i:=2) zdC.nd rfl (Or.inl rfl) (zA zbK (zA zbK (pv 2) (pv 5)) zd))))))))))))
 (zf (zl zJ))))),?_⟩
 refine ⟨_,rfl,_,_,rfl,rfl,_,rfl,ifF (decide_eq_false (show¬i < 0 by omega)) ?_⟩
 refine ⟨fun m σ H'=>∃(n c i:Int) (k4 k5:Option V),NthW cs m n c i r∧0≤i∧σ=[some (.ref a),some (.int n),some (.int i),some (.int c),k4,k5]∧H'=H,⟨t,n,301,i,_,_,nw,hi,rfl,rfl⟩,?_⟩
 clear nw hi
 rintro m σ H1 ⟨n,c,i,k4,k5,nw,hi,rfl,rfl⟩
 refine ⟨_,rfl,rfl,_,rfl,?_⟩
 rw [zan]
 rcases nw.inv with ⟨hn,er⟩ | ⟨hn,b,eb,er⟩ | ⟨hn,nd,eb,hnd⟩
 ·exact ifF (by rw [decide_eq_true hn];rfl) (q _ .non H1 er (Same.refl _) .non)
 ·refine ifT (by rw [decide_eq_false hn];rfl) ⟨_,fun σ' H' h=>h,?_⟩
  refine ⟨_,rfl,_,rfl,_,rfl,a,d,cs,n,c,rfl,vs,fun nd' v e rn=>(by rw [eb] at e;cases e),fun b' e=>?_⟩
  rw [eb] at e;cases e
  exact qe _ H1 er (Same.refl _)
 refine ifT (by rw [decide_eq_false hn];rfl) ⟨_,fun σ' H' h=>h,?_⟩
 refine ⟨_,rfl,_,rfl,_,rfl,a,d,cs,n,c,rfl,vs,fun nd' v e rn=>?_,fun b' e=>(by rw [eb] at e;cases e)⟩
 rw [eb] at e;cases e
 obtain ⟨p,vk,vw,rfl,ea,rk,rw'⟩:=zK rn
 have et:SqT K H1 p _:=SqT.of ea
 refine ⟨_,rfl,p,_,_,_,rfl,rfl,et,rfl,?_⟩
 refine ⟨_,rfl,_,rfl,_,_,rfl,rfl,_,rfl,?_⟩
 rcases hnd with ⟨hc,er⟩ | ⟨hc,hnd⟩
 ·exact ifT (decide_eq_true hc) (q _ .non H1 er (Same.refl _) .non)
 refine ifF (decide_eq_false (show¬i≥nd.c by omega)) ?_
 rcases hnd with ⟨b,es,er⟩ | ⟨c',es,hnd⟩
 ·refine ⟨_,rfl,_,rfl,p,_,_,_,rfl,rfl,et,rfl,_,rfl,a,d,cs,nd.l,nd.c,rfl,vs,fun c e=>(by rw [es] at e;cases e),fun b' e=>?_⟩
  rw [es] at e;cases e
  exact qe _ H1 er (Same.refl _)
 refine ⟨_,rfl,_,rfl,p,_,_,_,rfl,rfl,et,rfl,_,rfl,a,d,cs,nd.l,nd.c,rfl,vs,fun c e=>?_,fun b' e=>(by rw [es] at e;cases e)⟩
 rw [es] at e;cases e
 refine ⟨_,rfl,_,rfl,rfl,_,rfl,?_⟩
 rw [zan]
 rcases hnd with ⟨h1,er⟩ | ⟨h1,t',et',nw'⟩ | ⟨h1,t',et',nw'⟩
 ·refine ifT (decide_eq_true h1) ?_
  refine ⟨_,rfl,p,_,_,_,rfl,rfl,et,rfl,_,rfl,p,_,_,_,rfl,rfl,et,rfl,szl (show 2≤1000 by decide),fun p2 hp2=>?_⟩
  exact q _ _ _ er (zo (Same.refl _) hp2) ((RepL.cons rk (.cons rw' .nil)).new hp2)
 ·refine ifF (decide_eq_false (by omega)) ?_
  refine ⟨_,rfl,_,rfl,_,_,rfl,rfl,_,rfl,ifT (decide_eq_true h1) ?_⟩
  refine ⟨_,rfl,p,_,_,_,rfl,rfl,et,rfl,?_⟩
  exact ⟨t',by omega,_,_,i,_,_,nw',hi,rfl,rfl⟩
 ·refine ifF (decide_eq_false (by omega)) ?_
  refine ⟨_,rfl,_,rfl,_,_,rfl,rfl,_,rfl,ifF (decide_eq_false (by omega)) ?_⟩
  refine ⟨_,rfl,p,_,_,_,rfl,rfl,et,rfl,?_⟩
  refine ⟨_,rfl,_,rfl,_,_,rfl,rfl,_,_,rfl,rfl,?_⟩
  exact ⟨t',by omega,_,_,i - c' - 1,_,_,nw',by omega,rfl,rfl⟩
end
end Pv
namespace L2
open PySem PySem.Spec PyProof.Rows
theorem zlX {ι:Type}{X:Cx}{e:Expr}{Ws:List ι}{t:ι→TE}(h:∀W,W∈Ws→PE X e (t W)):PE X e (fun σ H Q=>∃W,W∈Ws∧t W σ H Q):=by
 intro pins s σ H Q I q
 obtain ⟨W,hW,q⟩:=q
 exact h W hW pins s σ H Q I q
end L2
namespace Pv
open PySem L2
abbrev zaT:Stmt:=inClass (top 67) 0
theorem zdD:zm ["self","key"] ["self","key"] (zg zaT):=⟨rfl,rfl,rfl,by decide+kernel,rfl,by decide+kernel,by decide+kernel⟩
abbrev zbb:Stmt:=inClass (top 67) 1
theorem zex:zm ["self","vault","root"] ["self","vault","root"] (zg zbb):=⟨rfl,rfl,rfl,by decide+kernel,rfl,by decide+kernel,by decide+kernel⟩
abbrev zat:Stmt:=inClass (top 68) 0
theorem zcP:zm ["self","low","high"] ["self","low","high"] (zg zat):=⟨rfl,rfl,rfl,by decide+kernel,rfl,by decide+kernel,by decide+kernel⟩
abbrev zaI:Stmt:=inClass (top 68) 1
theorem zdk:zm ["self","vault","root"] ["self","vault","root"] (zg zaI):=⟨rfl,rfl,rfl,by decide+kernel,rfl,by decide+kernel,by decide+kernel⟩
abbrev zaH:Stmt:=inClass (top 69) 0
theorem zdf:zm ["self","low","high"] ["self","low","high"] (zg zaH):=⟨rfl,rfl,rfl,by decide+kernel,rfl,by decide+kernel,by decide+kernel⟩
abbrev za5:Stmt:=inClass (top 69) 1
theorem zd4:zm ["self","vault","root"] ["self","vault","root"] (zg za5):=⟨rfl,rfl,rfl,by decide+kernel,rfl,by decide+kernel,by decide+kernel⟩
abbrev za3:Stmt:=inClass (top 70) 0
theorem zej:zm ["self","number"] ["self","number"] (zg za3):=⟨rfl,rfl,rfl,by decide+kernel,rfl,by decide+kernel,by decide+kernel⟩
abbrev zbr:Stmt:=inClass (top 70) 1
theorem zeT:zm ["self","vault","root"] ["self","vault","root"] (zg zbr):=⟨rfl,rfl,rfl,by decide+kernel,rfl,by decide+kernel,by decide+kernel⟩
abbrev za2:Stmt:=inClass (top 71) 0
theorem zdX:zm ["self","key","worth"] ["self","key","worth"] (zg za2):=⟨rfl,rfl,rfl,by decide+kernel,rfl,by decide+kernel,by decide+kernel⟩
abbrev zbx:Stmt:=inClass (top 71) 1
theorem zfh:zm ["self","vault","root"] ["self","vault","root"] (zg zbx):=⟨rfl,rfl,rfl,by decide+kernel,rfl,by decide+kernel,by decide+kernel⟩
abbrev za6:Stmt:=inClass (top 72) 0
theorem zdR:zm ["self","key"] ["self","key"] (zg za6):=⟨rfl,rfl,rfl,by decide+kernel,rfl,by decide+kernel,by decide+kernel⟩
abbrev zbv:Stmt:=inClass (top 72) 1
theorem zff:zm ["self","vault","root"] ["self","vault","root"] (zg zbv):=⟨rfl,rfl,rfl,by decide+kernel,rfl,by decide+kernel,by decide+kernel⟩
theorem Mt.mono {P:Program}{w:World}{K:PySem.W.Frag}{mg:Str→Option Value}{base:Heap}{CX:CXT}{C:Addr}{m:Str}{j k:Nat}{ps:List Str}{sp:Sp}(F:Mt P w K mg base CX C m j ps sp)(h:j≤k):Mt P w K mg base CX C m k ps sp:=by
 obtain ⟨f,fd,a,b⟩:=F.ex
 exact ⟨f,fd,a.mono h,b⟩
inductive Qn where
 | find (k:Th)
 | str (lo hi:Th)
 | cnt (lo hi:Th)
 | nth (i:Int)
 | put (k w:Th)
 | cut (k:Th)
inductive Kd where
 | fi | st | co | nt | pu | cu
def Qn.kd:Qn→Kd
 | .find _=>.fi
 | .str _ _=>.st
 | .cnt _ _=>.co
 | .nth _=>.nt
 | .put _ _=>.pu
 | .cut _=>.cu
def zgY:List Kd:=[.fi,.st,.co,.nt,.pu,.cu]
theorem zlN (k:Kd):k∈zgY:=by cases k <;> simp [zgY]
def Qn.fs (H:Hp):Qn→List (Str ×V)→Prop
 | .find k,fs=>∃v,fs=[(("key" :Str),v)]∧Rep H k v
 | .str lo hi,fs=>∃v u,fs=[(("low" :Str),v),(("high" :Str),u)]∧Rep H lo v∧Rep H hi u
 | .cnt lo hi,fs=>∃v u,fs=[(("low" :Str),v),(("high" :Str),u)]∧Rep H lo v∧Rep H hi u
 | .nth i,fs=>fs=[(("number" :Str),V.int i)]
 | .put k w,fs=>∃v u,fs=[(("key" :Str),v),(("worth" :Str),u)]∧Rep H k v∧Rep H w u
 | .cut k,fs=>∃v,fs=[(("key" :Str),v)]∧Rep H k v
theorem Qn.fs_keep {H H':Hp}{q:Qn}{fs:List (Str ×V)}(t:Tups H H')(h:q.fs H fs):q.fs H' fs:=by
 cases q with
 | find k=>obtain ⟨v,e,r⟩:=h;exact ⟨v,e,r.keep t⟩
 | str lo hi=>obtain ⟨v,u,e,r,s⟩:=h;exact ⟨v,u,e,r.keep t,s.keep t⟩
 | cnt lo hi=>obtain ⟨v,u,e,r,s⟩:=h;exact ⟨v,u,e,r.keep t,s.keep t⟩
 | nth i=>exact h
 | put k w=>obtain ⟨v,u,e,r,s⟩:=h;exact ⟨v,u,e,r.keep t,s.keep t⟩
 | cut k=>obtain ⟨v,e,r⟩:=h;exact ⟨v,e,r.keep t⟩
theorem Qn.noAns {H:Hp}{q:Qn}{fs:List (Str ×V)}(h:q.fs H fs):fs.lookup ("answer" :Str)=none:=by
 cases q with
 | find k=>obtain ⟨v,rfl,_⟩:=h;rfl
 | str lo hi=>obtain ⟨v,u,rfl,_⟩:=h;rfl
 | cnt lo hi=>obtain ⟨v,u,rfl,_⟩:=h;rfl
 | nth i=>cases h;rfl
 | put k w=>obtain ⟨v,u,rfl,_⟩:=h;rfl
 | cut k=>obtain ⟨v,rfl,_⟩:=h;rfl
def QAt (cl:Kd→Addr)(H:Hp)(q:Qn)(b:Addr):Prop:=∃dx fs,H b=some (.ins (cl q.kd) dx fs)∧q.fs H fs
theorem QAt.same {cl:Kd→Addr}{H H':Hp}{q:Qn}{b:Addr}(h:QAt cl H q b)(s:Same H H'):QAt cl H' q b:=by
 obtain ⟨dx,fs,e,f⟩:=h
 exact ⟨dx,fs,s _ _ e,Qn.fs_keep (Same.tups s) f⟩
inductive RV where
 | th (t:Th)
 | ls (ts:List Th)
def RepV (H:Hp):RV→V→Prop
 | .th t,v=>Rep H t v
 | .ls ts,v=>∃p xs,v=.ref p∧H p=some (.lst xs)∧RepL H ts xs
def Ans (cs:List (Int ×Th))(n:Int):Qn→Except Bool RV→Prop
 | .find k,r=>KeyT k∧∃ns res,Way cs k n 301 ns res∧ns.length≤300∧((∃b,res=some b∧r=.error b)∨(res=none∧∃pre nd,ns=pre++ [nd]∧nd.k=k∧r=.ok (.th nd.w)))
 | .str lo hi,r=>dep lo≤3∧zai lo hi=false∧∃k res,StW cs lo hi k n [] [] 301 res∧k≤100∧((∃b,res=.error b∧r=.error b)∨(∃ps,res=.ok ps∧r=.ok (.ls (ps.map zab))))
 | .cnt lo hi,r=>dep lo≤3∧zai lo hi=false∧KeyT hi∧∃ns b,Way cs hi n 301 ns (some b)∧ns.length≤300∧r=.error b
 | .nth i,r=>0≤i∧∃t res,NthW cs t n 301 i res∧((∃b,res=.error b∧r=.error b)∨(∃x,res=.ok x∧r=.ok (.th x)))
 | .put k _,r=>KeyT k∧∃ns b,Way cs k n 301 ns (some b)∧ns.length≤300∧r=.error b
 | .cut k,r=>KeyT k∧∃ns b,Way cs k n 301 ns (some b)∧ns.length≤300∧r=.error b
def zdZ (cl:Kd→Addr)(C CN CB:Addr)(kd:Kd):Sp:=fun vs H Q E=>∃(b a d:Addr) (cs:List (Int ×Th)) (n:Int) (q:Qn) (r:Except Bool RV),vs=[.ref b,.ref a,.int n]∧q.kd=kd∧QAt cl H q b∧VS H C a d cs∧Ans cs n q r∧
 (∀x v H',r=.ok x→Same H H'→RepV H' x v→Q v H')∧(∀e H',r=.error e→Same H H'→E (.ref (exA CN CB e)) none H')
def spI1 (C:Addr)(f:Str):Sp:=fun vs H Q _=>∃(a dx:Addr) (v:V),vs=[.ref a,v]∧H a=some (.ins C dx [])∧∀H',(∀b o,b≠a→H b=some o→H' b=some o)→H' a=some (.ins C dx [(f,v)])→Q .non H'
def spI2 (C:Addr)(f g:Str):Sp:=fun vs H Q _=>∃(a dx:Addr) (v u:V),vs=[.ref a,v,u]∧H a=some (.ins C dx [])∧∀H',(∀b o,b≠a→H b=some o→H' b=some o)→H' a=some (.ins C dx [(f,v),(g,u)])→Q .non H'
def ziu (C CN CB:Addr):Sp:=fun vs H Q E=>∃(a d:Addr) (cs:List (Int ×Th)) (n:Int) (x:Th) (vx:V) (ns:List Nd) (b:Bool),vs=[.ref a,.int n,vx]∧VS H C a d cs∧Way cs x n 301 ns (some b)∧ns.length≤300∧Rep H x vx∧KeyT x∧∀H',Same H H'→E (.ref (exA CN CB b)) none H'
def zf0 (C CN CB:Addr):Sp:=fun vs H Q E=>∃(a d:Addr) (cs:List (Int ×Th)) (n:Int) (lo hi:Th) (vl vh:V) (ns:List Nd) (b:Bool),vs=[.ref a,.int n,vl,vh]∧VS H C a d cs∧Rep H lo vl∧Rep H hi vh∧dep lo≤3∧zai lo hi=false∧KeyT hi∧Way cs hi n 301 ns (some b)∧ns.length≤300∧∀H',Same H H'→E (.ref (exA CN CB b)) none H'
theorem zgc {f g:Str}{v u:V}(h:(f==g)=false):putF g u [(f,v)]=[(f,v),(g,u)]:=by
 unfold putF
 rw [if_neg (by intro z;rw [z,beq_self_eq_true] at h;cases h)]
 rfl
section
variable {P:Program}{w:World}{K:PySem.W.Frag}{mg:Str→Option Value}{base:Heap}{C CC CN CB A:Addr}{x:Str}{cl:Kd→Addr}
theorem zkt (D:Dfn K mg "cut" scut ["vault","root","key"]) (F_way_to:FnX P w K mg base "way_to" 22 ["vault","root","key"] (zdS C CN CB)):FnX P w K mg base "cut" 23 ["vault","root","key"] (ziu C CN CB):=by
 refine D.okX (k:=22) zk4 (fun vs H Q E h=>?_) (fun f cdv A outer s H vs Q E hr h=>?_)
 ·obtain ⟨a,d,cs,n,x,vx,ns,b,rfl,_⟩:=h;rfl
 obtain ⟨a,d,cs,n,x,vx,ns,b,rfl,vs,wy,hns,rx,kx,qe⟩:=h
 refine ⟨_,(zc (zq (i:=3) zk4.nd rfl (Or.inl rfl) (zO F_way_to hr (by omega) (by rfl) zE (za (pv 0) (za (pv 1) (za (pv 2) zb)))))
 zeO),?_⟩
 exact ⟨_,rfl,_,rfl,_,rfl,a,d,cs,n,x,vx,ns,some b,rfl,vs,wy,hns,rx,kx,(by intro er;cases er),(by intro b' H' e s;cases e;exact qe H' s)⟩
theorem zh9 (D:Dfn K mg "counted" zel ["vault","root","low","high"]) (F_is_empty:Fn P w K mg base "is_empty" 21 ["low","high"] ze9) (F_size:FnX P w K mg base "size" 6 ["vault","root"] (zhd C CN CB)) (F_count_ahead:FnX P w K mg base "count_ahead" 23 ["vault","root","key"] (zjA C CN CB)):FnX P w K mg base "counted" 24 ["vault","root","low","high"] (zf0 C CN CB):=by
 refine D.okX (k:=23) zeP (fun vs H Q E h=>?_) (fun f cdv A outer s H vs Q E hr h=>?_)
 ·obtain ⟨a,d,cs,n,lo,hi,vl,vh,ns,b,rfl,_⟩:=h;rfl
 obtain ⟨a,d,cs,n,lo,hi,vl,vh,ns,b,rfl,vs,rl,rh,dl,he,kh,wy,hns,qe⟩:=h
 refine ⟨_,(zc (zD (zQ (zw F_is_empty hr (by omega) (by rfl) (za (pv 2) (za (pv 3) zb))))
 (zf (zl zd))
 zr)
 (zc (zq (i:=4) zeP.nd rfl (Or.inl rfl) (zcZ (zx zbl (pv 3) zJ (zt _)) (zO F_size hr (by omega) (by rfl) zE (za (pv 0) (za (pv 1) zb))) (zO F_count_ahead hr (by omega) (by rfl) zE (za (pv 0) (za (pv 1) (za (pv 3) zb))))))
 (zc (zD (zx zbl (pv 2) zJ (zt _))
 (zf (zl (pv 4)))
 zr)
 (zf (zl (zA zbK (pv 4) (zO F_count_ahead hr (by omega) (by rfl) zE (za (pv 0) (za (pv 1) (za (pv 2) zb)))))))))),?_⟩
 refine ⟨_,rfl,_,rfl,lo,hi,vl,vh,rfl,rl,rh,dl,fun H1 s1=>⟨_,rfl,?_⟩⟩
 rw [he]
 refine ifF rfl ?_
 refine ⟨_,rfl,rfl,_,rfl,ifF (zlQ rh kh.ne) ?_⟩
 exact ⟨_,rfl,_,rfl,_,rfl,a,d,cs,n,hi,vh,ns,some b,rfl,vs.same s1,wy,hns,rh.keep (Same.tups s1),kh,(by intro er;cases er),(by intro b' H' e s;cases e;exact qe H' fun b o z=>s b o (s1 b o z))⟩
theorem zi7 (D:Mkd K mg "Find" A "Find.__init__" zaT ["self","key"]) (c:Cls K A) (n1:zy K A "key"):Mkr P w K mg base "Find" A 1 ["self","key"] (spI1 A "key"):=by
 refine D.ok (k:=0) zdD (fun vs H Q E h=>?_) (fun f cdv A' outer s H vs Q E hr h=>?_)
 ·obtain ⟨a,dx,v,rfl,_⟩:=h;rfl
 obtain ⟨a,dx,v,rfl,ea,q⟩:=h
 refine ⟨_,(zf (zbB (pv 0) (pv 1) (by rfl))),?_⟩
 exact ⟨_,rfl,_,rfl,a,A,dx,[],rfl,ea,c,n1,by decide,q _ (fun b o n e=>by rw [zj n];exact e) ze⟩
theorem zfv (D:Mkd K mg "Stretch" A "Stretch.__init__" zat ["self","low","high"]) (c:Cls K A) (n1:zy K A "low") (n2:zy K A "high"):Mkr P w K mg base "Stretch" A 1 ["self","low","high"] (spI2 A "low" "high"):=by
 refine D.ok (k:=0) zcP (fun vs H Q E h=>?_) (fun f cdv A' outer s H vs Q E hr h=>?_)
 ·obtain ⟨a,dx,v,u,rfl,_⟩:=h;rfl
 obtain ⟨a,dx,v,u,rfl,ea,q⟩:=h
 refine ⟨_,(zc (zbB (pv 0) (pv 1) (by rfl))
 (zf (zbB (pv 0) (pv 2) (by rfl)))),?_⟩
 refine ⟨_,rfl,_,rfl,a,A,dx,[],rfl,ea,c,n1,by decide,?_⟩
 refine ⟨_,rfl,_,rfl,a,A,dx,_,rfl,ze,c,n2,(show (1:Nat) < 1000 by decide),q _ (fun b o n e=>by rw [zj n,zj n];exact e) ?_⟩
 rw [ze]
 exact congrArg (fun z=>some (HO.ins A dx z)) (zgc (by decide))
theorem zhJ (D:Mkd K mg "Count" A "Count.__init__" zaH ["self","low","high"]) (c:Cls K A) (n1:zy K A "low") (n2:zy K A "high"):Mkr P w K mg base "Count" A 1 ["self","low","high"] (spI2 A "low" "high"):=by
 refine D.ok (k:=0) zdf (fun vs H Q E h=>?_) (fun f cdv A' outer s H vs Q E hr h=>?_)
 ·obtain ⟨a,dx,v,u,rfl,_⟩:=h;rfl
 obtain ⟨a,dx,v,u,rfl,ea,q⟩:=h
 refine ⟨_,(zc (zbB (pv 0) (pv 1) (by rfl))
 (zf (zbB (pv 0) (pv 2) (by rfl)))),?_⟩
 refine ⟨_,rfl,_,rfl,a,A,dx,[],rfl,ea,c,n1,by decide,?_⟩
 refine ⟨_,rfl,_,rfl,a,A,dx,_,rfl,ze,c,n2,(show (1:Nat) < 1000 by decide),q _ (fun b o n e=>by rw [zj n,zj n];exact e) ?_⟩
 rw [ze]
 exact congrArg (fun z=>some (HO.ins A dx z)) (zgc (by decide))
theorem zkk (D:Mkd K mg "Nth" A "Nth.__init__" za3 ["self","number"]) (c:Cls K A) (n1:zy K A "number"):Mkr P w K mg base "Nth" A 1 ["self","number"] (spI1 A "number"):=by
 refine D.ok (k:=0) zej (fun vs H Q E h=>?_) (fun f cdv A' outer s H vs Q E hr h=>?_)
 ·obtain ⟨a,dx,v,rfl,_⟩:=h;rfl
 obtain ⟨a,dx,v,rfl,ea,q⟩:=h
 refine ⟨_,(zf (zbB (pv 0) (pv 1) (by rfl))),?_⟩
 exact ⟨_,rfl,_,rfl,a,A,dx,[],rfl,ea,c,n1,by decide,q _ (fun b o n e=>by rw [zj n];exact e) ze⟩
theorem zkx (D:Mkd K mg "Put" A "Put.__init__" za2 ["self","key","worth"]) (c:Cls K A) (n1:zy K A "key") (n2:zy K A "worth"):Mkr P w K mg base "Put" A 1 ["self","key","worth"] (spI2 A "key" "worth"):=by
 refine D.ok (k:=0) zdX (fun vs H Q E h=>?_) (fun f cdv A' outer s H vs Q E hr h=>?_)
 ·obtain ⟨a,dx,v,u,rfl,_⟩:=h;rfl
 obtain ⟨a,dx,v,u,rfl,ea,q⟩:=h
 refine ⟨_,(zc (zbB (pv 0) (pv 1) (by rfl))
 (zf (zbB (pv 0) (pv 2) (by rfl)))),?_⟩
 refine ⟨_,rfl,_,rfl,a,A,dx,[],rfl,ea,c,n1,by decide,?_⟩
 refine ⟨_,rfl,_,rfl,a,A,dx,_,rfl,ze,c,n2,(show (1:Nat) < 1000 by decide),q _ (fun b o n e=>by rw [zj n,zj n];exact e) ?_⟩
 rw [ze]
 exact congrArg (fun z=>some (HO.ins A dx z)) (zgc (by decide))
theorem zkv (D:Mkd K mg "Cut" A "Cut.__init__" za6 ["self","key"]) (c:Cls K A) (n1:zy K A "key"):Mkr P w K mg base "Cut" A 1 ["self","key"] (spI1 A "key"):=by
 refine D.ok (k:=0) zdR (fun vs H Q E h=>?_) (fun f cdv A' outer s H vs Q E hr h=>?_)
 ·obtain ⟨a,dx,v,rfl,_⟩:=h;rfl
 obtain ⟨a,dx,v,rfl,ea,q⟩:=h
 refine ⟨_,(zf (zbB (pv 0) (pv 1) (by rfl))),?_⟩
 exact ⟨_,rfl,_,rfl,a,A,dx,[],rfl,ea,c,n1,by decide,q _ (fun b o n e=>by rw [zj n];exact e) ze⟩
theorem zjE (D:Mdf K (cl .fi) "answer" "Find.answer" zbb ["self","vault","root"]) (F_found:FnX P w K mg base "found" 23 ["vault","root","key"] (zfY C CN CB)) (c:Cls K (cl .fi)) (n1:zy K (cl .fi) "key"):Mt P w K mg base (CX1 P w) (cl .fi) "answer" 25 ["self","vault","root"] (zdZ cl C CN CB .fi):=by
 refine Mt.mono (j:=24) ?_ (by decide)
 refine D.okX (k:=23) zex (fun vs H Q E h=>?_) (fun f cdv A outer s H vs Q E hr h=>?_)
 ·obtain ⟨b,a,d,cs,n,q,r,rfl,_⟩:=h;rfl
 obtain ⟨b,a,d,cs,n,qn,r,rfl,hk,⟨dx,fs,eb,hf⟩,vs,an,q,qe⟩:=h
 refine ⟨_,(zf (zl (zO F_found hr (by omega) (by rfl) zE (za (pv 1) (za (pv 2) (za (zaN (pv 0) (by rfl)) zb)))))),?_⟩
 cases qn with
 | str _ _=>cases hk
 | cnt _ _=>cases hk
 | nth _=>cases hk
 | put _ _=>cases hk
 | cut _=>cases hk
 | find k=>
 obtain ⟨v,rfl,rk⟩:=hf
 obtain ⟨kk,ns,res,wy,hns,hr'⟩:=an
 refine ⟨_,rfl,_,rfl,_,rfl,b,cl .fi,dx,_,_,rfl,eb,c,n1,rfl,a,d,cs,n,k,v,ns,res,rfl,vs,wy,hns,rk,kk,fun er=>?_,fun e H' er s=>?_⟩
 ·rcases hr' with ⟨e,er',_⟩ | ⟨_,pre,nd,e1,e2,e3⟩
  ·rw [er] at er';cases er'
  ·exact ⟨pre,nd,e1,e2,fun v' H' s r'=>q _ v' H' e3 s r'⟩
 ·rcases hr' with ⟨e',er',e3⟩ | ⟨er',_⟩
  ·rw [er] at er';cases er';exact qe _ H' e3 s
  ·rw [er] at er';cases er'
theorem zfI (D:Mdf K (cl .st) "answer" "Stretch.answer" zaI ["self","vault","root"]) (F_stretch:FnX P w K mg base "stretch" 22 ["vault","root","low","high"] (zeq C CN CB)) (c:Cls K (cl .st)) (n1:zy K (cl .st) "low") (n2:zy K (cl .st) "high"):Mt P w K mg base (CX1 P w) (cl .st) "answer" 25 ["self","vault","root"] (zdZ cl C CN CB .st):=by
 refine Mt.mono (j:=23) ?_ (by decide)
 refine D.okX (k:=22) zdk (fun vs H Q E h=>?_) (fun f cdv A outer s H vs Q E hr h=>?_)
 ·obtain ⟨b,a,d,cs,n,q,r,rfl,_⟩:=h;rfl
 obtain ⟨b,a,d,cs,n,qn,r,rfl,hk,⟨dx,fs,eb,hf⟩,vs,an,q,qe⟩:=h
 refine ⟨_,(zf (zl (zO F_stretch hr (by omega) (by rfl) zE (za (pv 1) (za (pv 2) (za (zaN (pv 0) (by rfl)) (za (zaN (pv 0) (by rfl)) zb))))))),?_⟩
 cases qn with
 | find _=>cases hk
 | cnt _ _=>cases hk
 | nth _=>cases hk
 | put _ _=>cases hk
 | cut _=>cases hk
 | str lo hi=>
 obtain ⟨v,u,rfl,rl,rh⟩:=hf
 obtain ⟨dl,he,k,res,st,hk,hr'⟩:=an
 refine ⟨_,rfl,_,rfl,_,rfl,b,cl .st,dx,_,_,rfl,eb,c,n1,rfl,_,rfl,b,cl .st,dx,_,_,rfl,eb,c,n2,rfl,a,d,cs,n,lo,hi,v,u,rfl,vs,rl,rh,dl,.inr ⟨he,k,res,st,hk,fun ps er p xs H' s hp ep rp=>?_,fun e H' er s=>?_⟩⟩
 ·rcases hr' with ⟨e,er',_⟩ | ⟨ps',er',e3⟩
  ·rw [er] at er';cases er'
  ·rw [er] at er';cases er';exact q _ _ H' e3 s ⟨p,xs,rfl,ep,rp⟩
 ·rcases hr' with ⟨e',er',e3⟩ | ⟨ps',er',_⟩
  ·rw [er] at er';cases er';exact qe _ H' e3 s
  ·rw [er] at er';cases er'
theorem zh8 (D:Mdf K (cl .co) "answer" "Count.answer" za5 ["self","vault","root"]) (F_counted:FnX P w K mg base "counted" 24 ["vault","root","low","high"] (zf0 C CN CB)) (c:Cls K (cl .co)) (n1:zy K (cl .co) "low") (n2:zy K (cl .co) "high"):Mt P w K mg base (CX1 P w) (cl .co) "answer" 25 ["self","vault","root"] (zdZ cl C CN CB .co):=by
 refine Mt.mono (j:=25) ?_ (by decide)
 refine D.okX (k:=24) zd4 (fun vs H Q E h=>?_) (fun f cdv A outer s H vs Q E hr h=>?_)
 ·obtain ⟨b,a,d,cs,n,q,r,rfl,_⟩:=h;rfl
 obtain ⟨b,a,d,cs,n,qn,r,rfl,hk,⟨dx,fs,eb,hf⟩,vs,an,q,qe⟩:=h
 refine ⟨_,(zf (zl (zO F_counted hr (by omega) (by rfl) zE (za (pv 1) (za (pv 2) (za (zaN (pv 0) (by rfl)) (za (zaN (pv 0) (by rfl)) zb))))))),?_⟩
 cases qn with
 | find _=>cases hk
 | str _ _=>cases hk
 | nth _=>cases hk
 | put _ _=>cases hk
 | cut _=>cases hk
 | cnt lo hi=>
 obtain ⟨v,u,rfl,rl,rh⟩:=hf
 obtain ⟨dl,he,kh,ns,e,wy,hns,er⟩:=an
 exact ⟨_,rfl,_,rfl,_,rfl,b,cl .co,dx,_,_,rfl,eb,c,n1,rfl,_,rfl,b,cl .co,dx,_,_,rfl,eb,c,n2,rfl,a,d,cs,n,lo,hi,v,u,ns,e,rfl,vs,rl,rh,dl,he,kh,wy,hns,fun H' s=>qe _ H' er s⟩
theorem zks (D:Mdf K (cl .nt) "answer" "Nth.answer" zbr ["self","vault","root"]) (F_nth:FnX P w K mg base "nth" 6 ["vault","root","number"] (zjv C CN CB)) (c:Cls K (cl .nt)) (n1:zy K (cl .nt) "number"):Mt P w K mg base (CX1 P w) (cl .nt) "answer" 25 ["self","vault","root"] (zdZ cl C CN CB .nt):=by
 refine Mt.mono (j:=7) ?_ (by decide)
 refine D.okX (k:=6) zeT (fun vs H Q E h=>?_) (fun f cdv A outer s H vs Q E hr h=>?_)
 ·obtain ⟨b,a,d,cs,n,q,r,rfl,_⟩:=h;rfl
 obtain ⟨b,a,d,cs,n,qn,r,rfl,hk,⟨dx,fs,eb,hf⟩,vs,an,q,qe⟩:=h
 refine ⟨_,(zf (zl (zO F_nth hr (by omega) (by rfl) zE (za (pv 1) (za (pv 2) (za (zaN (pv 0) (by rfl)) zb)))))),?_⟩
 cases qn with
 | find _=>cases hk
 | str _ _=>cases hk
 | cnt _ _=>cases hk
 | put _ _=>cases hk
 | cut _=>cases hk
 | nth i=>
 cases hf
 obtain ⟨hi,t,res,nw,hr'⟩:=an
 refine ⟨_,rfl,_,rfl,_,rfl,b,cl .nt,dx,_,_,rfl,eb,c,n1,rfl,a,d,cs,n,i,t,res,rfl,vs,hi,nw,fun x v H' er s rv=>?_,fun e H' er s=>?_⟩
 ·rcases hr' with ⟨e,er',_⟩ | ⟨x',er',e3⟩
  ·rw [er] at er';cases er'
  ·rw [er] at er';cases er';exact q _ v H' e3 s rv
 ·rcases hr' with ⟨e',er',e3⟩ | ⟨x',er',_⟩
  ·rw [er] at er';cases er';exact qe _ H' e3 s
  ·rw [er] at er';cases er'
theorem zj1 (D:Mdf K (cl .pu) "answer" "Put.answer" zbx ["self","vault","root"]) (F_put:FnX P w K mg base "put" 23 ["vault","root","key","worth"] (zjt C CN CB)) (c:Cls K (cl .pu)) (n1:zy K (cl .pu) "key") (n2:zy K (cl .pu) "worth"):Mt P w K mg base (CX1 P w) (cl .pu) "answer" 25 ["self","vault","root"] (zdZ cl C CN CB .pu):=by
 refine Mt.mono (j:=24) ?_ (by decide)
 refine D.okX (k:=23) zfh (fun vs H Q E h=>?_) (fun f cdv A outer s H vs Q E hr h=>?_)
 ·obtain ⟨b,a,d,cs,n,q,r,rfl,_⟩:=h;rfl
 obtain ⟨b,a,d,cs,n,qn,r,rfl,hk,⟨dx,fs,eb,hf⟩,vs,an,q,qe⟩:=h
 refine ⟨_,(zf (zl (zO F_put hr (by omega) (by rfl) zE (za (pv 1) (za (pv 2) (za (zaN (pv 0) (by rfl)) (za (zaN (pv 0) (by rfl)) zb))))))),?_⟩
 cases qn with
 | find _=>cases hk
 | str _ _=>cases hk
 | cnt _ _=>cases hk
 | nth _=>cases hk
 | cut _=>cases hk
 | put k wo=>
 obtain ⟨v,u,rfl,rk,rw'⟩:=hf
 obtain ⟨kk,ns,e,wy,hns,er⟩:=an
 exact ⟨_,rfl,_,rfl,_,rfl,b,cl .pu,dx,_,_,rfl,eb,c,n1,rfl,_,rfl,b,cl .pu,dx,_,_,rfl,eb,c,n2,rfl,a,d,cs,n,k,v,u,ns,e,rfl,vs,wy,hns,rk,kk,fun H' s=>qe _ H' er s⟩
theorem zjZ (D:Mdf K (cl .cu) "answer" "Cut.answer" zbv ["self","vault","root"]) (F_cut:FnX P w K mg base "cut" 23 ["vault","root","key"] (ziu C CN CB)) (c:Cls K (cl .cu)) (n1:zy K (cl .cu) "key"):Mt P w K mg base (CX1 P w) (cl .cu) "answer" 25 ["self","vault","root"] (zdZ cl C CN CB .cu):=by
 refine Mt.mono (j:=24) ?_ (by decide)
 refine D.okX (k:=23) zff (fun vs H Q E h=>?_) (fun f cdv A outer s H vs Q E hr h=>?_)
 ·obtain ⟨b,a,d,cs,n,q,r,rfl,_⟩:=h;rfl
 obtain ⟨b,a,d,cs,n,qn,r,rfl,hk,⟨dx,fs,eb,hf⟩,vs,an,q,qe⟩:=h
 refine ⟨_,(zf (zl (zO F_cut hr (by omega) (by rfl) zE (za (pv 1) (za (pv 2) (za (zaN (pv 0) (by rfl)) zb)))))),?_⟩
 cases qn with
 | find _=>cases hk
 | str _ _=>cases hk
 | cnt _ _=>cases hk
 | nth _=>cases hk
 | put _ _=>cases hk
 | cut k=>
 obtain ⟨v,rfl,rk⟩:=hf
 obtain ⟨kk,ns,e,wy,hns,er⟩:=an
 exact ⟨_,rfl,_,rfl,_,rfl,b,cl .cu,dx,_,_,rfl,eb,c,n1,rfl,a,d,cs,n,k,v,ns,e,rfl,vs,wy,hns,rk,kk,fun H' s=>qe _ H' er s⟩
end
end Pv
namespace L2
open PySem PySem.Spec PyProof.Rows Px
theorem zkD {X:Cx}{x:Str}{C:Addr}{ps:List Str}{sp:Sp}{k k':Nat}{e:Expr}{es:List Expr}{t:TA}{p pos:Pos}{E:XK}(M:MkrX X.prog X.w X.K X.mg X.base x C k ps sp)(hr:Room k' X.A)(hle:k+1≤k')(hg:Gl X x)(hx:zby (CX1 X.prog X.w) X E)(ha:PA X (e::es) t)(hd:(x==("__debug__" :Str))=false:=by decide)
  (he:starEach (e::es) X.env=(false,eval e X.env)::starEach es X.env:=by rfl) (hpl:∀pos,(backTo pos (starEach es X.env)).any (·.1)=false:=by intro _;rfl):PE X (.Call (.Name x p) (e::es) [] pos) (ziO C sp [] E t):=by
 obtain ⟨f,fd,a,b,mk,mm⟩:=M.ex
 exact zgD mk a (hr.mono hle) hg mm b .nil hx ha hd he (hpl _)
end L2
namespace Pv
open PySem L2
abbrev zef:Stmt:=top 29
theorem zhZ:zm ["root","ask","paper"] ["root","ask","paper"] (zg zef):=⟨rfl,rfl,rfl,by decide+kernel,rfl,by decide+kernel,by decide+kernel⟩
def zgG (cl:Kd→Addr)(CC CN CB:Addr):Sp:=fun vs H Q E=>∃(b pp:Addr) (n:Int) (qn:Qn) (pvs:List V) (ts:List Th),vs=[.int n,.ref b,.ref pp]∧QAt cl H qn b∧H pp=some (.lst pvs)∧RepL H ts pvs∧ts.length≤500∧(∀t∈ts,G5 t)∧ClS CC H E∧
 (Held (zZ ts) ts→∃r,Ans (zZ ts) n qn r∧(∀x v H',r=.ok x→Same H H'→RepV H' x v→Q v H')∧(∀e H',r=.error e→Same H H'→E (.ref (exA CN CB e)) none H'))
section
variable {P:Program}{w:World}{K:PySem.W.Frag}{mg:Str→Option Value}{base:Heap}{W CC CN CB:Addr}{cl:Kd→Addr}
theorem zgB (D:Dfn K mg "checked" zef ["root","ask","paper"]) (K_Witness:MkrX P w K mg base "Witness" W 16 ["self","paper"] (spWI W CC)) (M:∀k∈zgY,Mt P w K mg base (CX1 P w) (cl k) "answer" 25 ["self","vault","root"] (zdZ cl W CN CB k)) (Cc:∀k∈zgY,Cls K (cl k)):FnX P w K mg base "checked" 26 ["root","ask","paper"] (zgG cl CC CN CB):=by
 refine D.okX (k:=25) zhZ (fun vs H Q E h=>?_) (fun f cdv A outer s H vs Q E hr h=>?_)
 ·obtain ⟨b,pp,n,qn,pvs,ts,rfl,_⟩:=h;rfl
 obtain ⟨b,pp,n,qn,pvs,ts,rfl,qa,epp,rp,hl,hg,cl',q⟩:=h
 refine ⟨_,(zf (zl (zlX fun W hW=>zhi (pv 1) (Cc W hW) (M W hW) hr (by omega) zE (za (zkD K_Witness hr (by omega) (by rfl) zE (za (pv 2) zb)) (za (pv 0) zb))))),?_⟩
 obtain ⟨dx,fs,eb,hf⟩:=id qa
 refine ⟨qn.kd,zlN _,_,rfl,b,dx,fs,rfl,eb,Qn.noAns hf,_,rfl,fun x dx' hx hdx nx=>?_⟩
 have sm:Same H (upd (upd H dx' (.own x)) x (.ins W dx' [])):=zcr (zo (Same.refl H) hdx) hx
 have ex:upd (upd H dx' (.own x)) x (.ins W dx' []) x=some (.ins W dx' []):=ze
 generalize upd (upd H dx' (.own x)) x (.ins W dx' [])=H1 at sm ex
 refine ⟨x,pp,dx',pvs,ts,rfl,ex,sm _ _ epp,rp.keep (Same.tups sm),hl,hg,(fun H2 f2 t1 t2 v1 v2 H3 x3 s3=>cl' t1 t2 v1 v2 H3 x3 fun c o e=>s3 c o (f2 c o (zh e hx) (sm c o e))),fun d H2 f2 vs2 held=>⟨rfl,?_⟩⟩
 have s2:Same H H2:=fun c o e=>f2 c o (zh e hx) (sm c o e)
 obtain ⟨r,an,q1,q2⟩:=q held
 exact ⟨_,rfl,b,x,d,_,n,qn,r,rfl,rfl,qa.same s2,vs2,an,fun y v H3 er s3 rv=>q1 y v H3 er (fun c o e=>s3 c o (s2 c o e)) rv,fun e H3 er s3=>q2 e H3 er (fun c o e=>s3 c o (s2 c o e))⟩
end
end Pv
namespace L2
open PySem PySem.Spec PyProof.Rows Px
def zfW (K:PySem.W.Frag)(cv cv2:Value)(i:Nat)(ts ts2:TS)(D:Ends):St→XK:=fun σ cls od H'=>∃C,cls=.ref C∧((PySem.W.exmOne K (.ref C) cv=some true∧∀e,H' e=none→ts (D.less i) (σ.set i (some (.ref e))) (upd H' e (exO e C od false)))∨
 (PySem.W.exmOne K (.ref C) cv=some false∧PySem.W.exmOne K (.ref C) cv2=some true∧∀e,H' e=none→ts2 (D.less i) (σ.set i (some (.ref e))) (upd H' e (exO e C od false))))
def zjP (K:PySem.W.Frag)(cv cv2:Value)(i:Nat)(tb:(St→XK)→TS)(ts ts2:TS):TS:=fun D σ H=>tb (zfW K cv cv2 i ts ts2 D) D σ H
section
variable {X:Cx}{x y n:Str}{i:Nat}{cv cv2:Value}{body suite suite2:List Stmt}{b₀ b₁:Stmt}{np np2 hpos hpos2 pos:Pos}{tb:(St→XK)→TS}{ts ts2:TS}
theorem zhS (hst:X.stack=X.env::X.outer)(hfm:X.env.frame=some X.env.locals)(hN:X.N.Nodup)(hi:X.N[i]? =some n)(hlo:X.env.scope.names.lookup n=some .local)(hg:Gl X x)(hm:X.mg x=some cv)(hg2:Gl X y)(hm2:X.mg y=some cv2)
  (hb:∀xe pn E,zca (CX1 X.prog X.w) (X.tried xe pn) E→PSs (X.tried xe pn) body (tb E)) (hs:∀e,PSs (X.suite e) (b₀::suite) ts) (hs2:∀e,PSs (X.suite e) (b₁::suite2) ts2) (hdb2:(y==("__debug__" :Str))=false:=by decide) (hdb:(x==("__debug__" :Str))=false:=by decide):
  PS X (.Try body [.ExceptHandler (some (.Name x np)) (some n) (b₀::suite) hpos,.ExceptHandler (some (.Name y np2)) (some n) (b₁::suite2) hpos2] [] [] pos) (zjP X.K cv cv2 i tb ts ts2):=by
 intro pins s σ H D I h
 have key:zca (CX1 X.prog X.w) (X.tried (fun e s₁=>wpAny (model X.prog X.w) X.A (noteFrame e X.env) (fun _ s₂=>wpAny (model X.prog X.w) X.A (setFlight e none) (fun _ s₃=>
   wpAny (model X.prog X.w) X.A (handleBy e X.env [.ExceptHandler (some (.Name x np)) (some n) (b₀::suite) hpos,.ExceptHandler (some (.Name y np2)) (some n) (b₁::suite2) hpos2]) (SP X pins D) X.xe s₃) X.xe s₂) X.xe s₁) (X.pn++pins)) (zfW X.K cv cv2 i ts ts2 D):=by
  intro pins' σ' H1 s1 e s2 I1 hc
  obtain ⟨ea,cls,od,H',T,rfl,os,bare,un,hok,tb',old,nT,u1,u2,C,rfl,hq⟩:=hc
  have J0:Inv X pins σ' H1 s1:=I1.untried
  have J:=J0.call' os un hok bare (fun b z=>nomatch z)
  show wpAny _ _ (noteFrame (.ref ea) X.env) _ _ s2
  refine zk5 (base:=X.base) (by rw [←hst];exact J.ok.frames) (by rw [←hst];exact J.stack) hfm tb' fun h3 T' z t3 c3=>?_
  rw [show (X.env::X.outer).filterMap (·.frame)=frs X.stack from by rw [hst];rfl] at c3
  have c3':Chg2 (frs X.stack) (fun b=>b=ea∨b=T∨b=T') s2.heap h3:=c3.mono fun b y=>y.elim .inl fun y=>.inr (.inl y)
  have J3:=J0.caught os bare un hok old nT u1 u2 z c3' t3
  have LT:PySem.W.Looks (model X.prog X.w) h3 (typeOf (.ref ea)) (.ref C):=by
   obtain ⟨vs,sl,ge,_⟩:=zbs J3.hok ze
   exact (PySem.W.Looks.ld ge).andThen .now
  rcases hq with ⟨em,q⟩ | ⟨em0,em,q⟩
  ·refine wpAny_handleBy_cons (codeAny_handlers_test (za8 (X:=X.suite ea) (J3.suite ea) hg hm ?_ hdb)) (by intro y;cases y)
   refine (PySem.W.exm_one J3.kIn LT em).here (s:={s2 with heap:=h3}) ?_
   refine codeAny_handlers_suite_as ?_
   refine zdh (s:={s2 with heap:=h3}) (fs:=frs X.stack) t3 fun h4 t4 c4 k4=>?_
   have J4:=J0.caught os bare un hok old nT u1 u2 z (c3'.trans (c4.two (own:=fun b=>b=ea∨b=T∨b=T') (.inl rfl) (.inl (.inr (.inr rfl))))) t4
   refine zcq (X:=X) J4 hN hi (.inl hlo) (show RelV (.ref ea) (Value.ref ea) from rfl) (fun s5 J5=>?_) (.inr hlo)
   refine wpAny_mono (hs ea pins s5 _ _ (D.less i) (J5.suite ea) (q ea u1)) (fun f s6 q6=>?_) fun _ _ y=>y.elim
   show wpAny _ _ _ _ _ _
   cases f with
   | next=>
    obtain ⟨σ6,H6,J6,y⟩:=q6
    exact zae (J6.unsuite J0.ok) hN hi hlo fun s7 J7=>⟨_,_,J7,y⟩
   | brk=>
    obtain ⟨σ6,H6,J6,y⟩:=q6
    exact zae (J6.unsuite J0.ok) hN hi hlo fun s7 J7=>⟨_,_,J7,y⟩
   | cont=>
    obtain ⟨σ6,H6,J6,y⟩:=q6
    exact zae (J6.unsuite J0.ok) hN hi hlo fun s7 J7=>⟨_,_,J7,y⟩
   | ret u=>
    obtain ⟨v6,σ6,H6,J6,rv,y⟩:=q6
    exact zae (J6.unsuite J0.ok) hN hi hlo fun s7 J7=>⟨_,_,_,J7,rv,y⟩
  ·refine wpAny_handleBy_cons (codeAny_handlers_test (za8 (X:=X.suite ea) (J3.suite ea) hg hm ?_ hdb)) (by intro y;cases y)
   refine (PySem.W.exm_one J3.kIn LT em0).here (s:={s2 with heap:=h3}) ?_
   show wpAny _ _ (handleBy _ _ _) _ _ _
   refine wpAny_handleBy_cons (codeAny_handlers_test (za8 (X:=X.suite ea) (J3.suite ea) hg2 hm2 ?_ hdb2)) (by intro y;cases y)
   refine (PySem.W.exm_one J3.kIn LT em).here (s:={s2 with heap:=h3}) ?_
   refine codeAny_handlers_suite_as ?_
   refine zdh (s:={s2 with heap:=h3}) (fs:=frs X.stack) t3 fun h4 t4 c4 k4=>?_
   have J4:=J0.caught os bare un hok old nT u1 u2 z (c3'.trans (c4.two (own:=fun b=>b=ea∨b=T∨b=T') (.inl rfl) (.inl (.inr (.inr rfl))))) t4
   refine zcq (X:=X) J4 hN hi (.inl hlo) (show RelV (.ref ea) (Value.ref ea) from rfl) (fun s5 J5=>?_) (.inr hlo)
   refine wpAny_mono (hs2 ea pins s5 _ _ (D.less i) (J5.suite ea) (q ea u1)) (fun f s6 q6=>?_) fun _ _ y=>y.elim
   show wpAny _ _ _ _ _ _
   cases f with
   | next=>
    obtain ⟨σ6,H6,J6,y⟩:=q6
    exact zae (J6.unsuite J0.ok) hN hi hlo fun s7 J7=>⟨_,_,J7,y⟩
   | brk=>
    obtain ⟨σ6,H6,J6,y⟩:=q6
    exact zae (J6.unsuite J0.ok) hN hi hlo fun s7 J7=>⟨_,_,J7,y⟩
   | cont=>
    obtain ⟨σ6,H6,J6,y⟩:=q6
    exact zae (J6.unsuite J0.ok) hN hi hlo fun s7 J7=>⟨_,_,J7,y⟩
   | ret u=>
    obtain ⟨v6,σ6,H6,J6,rv,y⟩:=q6
    exact zae (J6.unsuite J0.ok) hN hi hlo fun s7 J7=>⟨_,_,_,J7,rv,y⟩
 refine wpAny_Try_except (wpAny_mono (hb _ (X.pn++pins) _ key [] s σ H D (I.tried _) h) (fun f s₁ q=>?_) fun _ _ y=>y)
 cases f with
 | next=>obtain ⟨σ',H',I',y⟩:=q;exact wpAny_execs_nil ⟨σ',H',I'.untried,y⟩
 | brk=>obtain ⟨σ',H',I',y⟩:=q;exact ⟨σ',H',I'.untried,y⟩
 | cont=>obtain ⟨σ',H',I',y⟩:=q;exact ⟨σ',H',I'.untried,y⟩
 | ret u=>obtain ⟨v,σ',H',I',rv,y⟩:=q;exact ⟨v,σ',H',I'.untried,rv,y⟩
end
end L2
namespace L2
open PySem PySem.Spec PyProof.Rows Px
theorem zcn {X:Cx}{K:PySem.W.Frag}{e:Expr}{f:Str}{pos:Pos}{ta:TE}(hK:X.K=K)(he:PE X e ta)(hb:attributeBase e f X.env (eval e X.env)=eval e X.env):PE X (.Attribute e f pos) (tXG K ta f):=hK ▸ zms he hb
end L2
namespace Pv
open PySem L2
abbrev zce:Stmt:=top 79
theorem zaC:zm ["root","ask","paper","kinds","clash","e"] ["root","ask","paper"] (zg zce):=⟨rfl,rfl,rfl,by decide+kernel,rfl,by decide+kernel,by decide+kernel⟩
structure zkI (K:PySem.W.Frag)(C CV CC CNoPaper CNoState CNoThing CNotOn:Addr):Prop where
 kd:zi2 K C
 e0:PySem.W.exmOne K (.ref C) (.ref CC)=some false
 em:PySem.W.exmOne K (.ref C) (.ref CV)=some true
 k1:PySem.W.kitOne K (.ref C) (.ref C)=some true
 k3:PySem.W.kitOne K (.ref C) (.type "ValueError")=some true
 k4:PySem.W.kitAny K (.ref C) [.ref CNoPaper,.ref CNoState,.ref CNoThing,.ref CNotOn]=some false
def zjI (cl:Kd→Addr):Sp:=fun vs H Q _=>∃(b pp:Addr) (n:Int) (qn:Qn) (pvs:List V) (ts:List Th),vs=[.int n,.ref b,.ref pp]∧QAt cl H qn b∧H pp=some (.lst pvs)∧RepL H ts pvs∧ts.length≤500∧(∀t∈ts,G5 t)∧
 (Held (zZ ts) ts→Ans (zZ ts) n qn (.error true))∧∀p H',Same H H'→H' p=some (.lst [.bl true,.bl true,.bl false])→Q (.ref p) H'
section
variable {P:Program}{w:World}{K:PySem.W.Frag}{mg:Str→Option Value}{base:Heap}{CC CN CBadThing CVaultError CNoPaper CNoState CNoThing CNotOn:Addr}{cl:Kd→Addr}
theorem zlV (D:Dfn K mg "_law_kinds" zce ["root","ask","paper"]) (F_checked:FnX P w K mg base "checked" 26 ["root","ask","paper"] (zgG cl CC CN CBadThing)) (F_seal:Fn P w K mg base "seal" 13 ["thing"] zcf) (kb:zkI K CBadThing CVaultError CC CNoPaper CNoState CNoThing CNotOn)
  (em:PySem.W.exmOne K (.ref CC) (.ref CC)=some true) (xc:XCls K CC) (n1:zy K CC "one") (n2:zy K CC "other")
  (c_VaultError:mg "VaultError" =some (.ref CVaultError)) (c_BadThing:mg "BadThing" =some (.ref CBadThing)) (c_Clash:mg "Clash" =some (.ref CC)) (c_NoPaper:mg "NoPaper" =some (.ref CNoPaper)) (c_NoState:mg "NoState" =some (.ref CNoState)) (c_NoThing:mg "NoThing" =some (.ref CNoThing)) (c_NotOn:mg "NotOn" =some (.ref CNotOn))
  (m_isinstance:mg "isinstance" =none) (m_ValueError:mg "ValueError" =none):Fn P w K mg base "_law_kinds" 27 ["root","ask","paper"] (zjI cl):=by
 refine D.ok (k:=26) zaC (fun vs H Q E h=>?_) (fun f cdv A outer s H vs Q E hr h=>?_)
 ·obtain ⟨b,pp,n,qn,pvs,ts,rfl,_⟩:=h;rfl
 obtain ⟨b,pp,n,qn,pvs,ts,rfl,qa,epp,rp,hl,hg,an,q⟩:=h
 refine ⟨_,(zc (zq (i:=3) zaC.nd rfl (Or.inl rfl) (zL zb))
 (zc (zq (i:=4) zaC.nd rfl (Or.inl rfl) zJ)
 (zc (zhS (i:=5) rfl rfl zaC.nd rfl rfl (by rfl) c_Clash (by rfl) c_VaultError (fun xe pn E hx=>(zf (zao (zjq F_checked hr (by omega) (by rfl) hx (za (pv 0) (za (pv 1) (za (pv 2) zb))))))) (fun e=>(zf (zq (i:=4) zaC.nd rfl (Or.inl rfl) (pv 5)))) (fun e=>(zc (zq (i:=3) zaC.nd rfl (Or.inl rfl) (zL (za (zF (zbE (K:=K) rfl) (by rfl) m_isinstance (by rfl) (za (pv 5) (za (zv (v:=.ref CBadThing) (by rfl) c_BadThing rfl) zb))) (za (zF (zbE (K:=K) rfl) (by rfl) m_isinstance (by rfl) (za (pv 5) (za (zaz (v:=.ty "ValueError") (by rfl) m_ValueError (by rfl) rfl) zb))) zb))))
 (zf (zao (zlW (K:=K) rfl PySem.F.plainAttrs_list PySem.F.slot_list_append PySem.F.type_list_append zaP (pv 3) (za (zF (zbE (K:=K) rfl) (by rfl) m_isinstance (by rfl) (za (pv 5) (za (zP (za (zv (v:=.ref CNoPaper) (by rfl) c_NoPaper rfl) (za (zv (v:=.ref CNoState) (by rfl) c_NoState rfl) (za (zv (v:=.ref CNoThing) (by rfl) c_NoThing rfl) (za (zv (v:=.ref CNotOn) (by rfl) c_NotOn rfl) zb))))) zb))) zb)))))))
 (zc (zD (PW.pt (ze3 (zx zdG (pv 4) zJ (zt _)) (ze3 (zx (zb6 hr) (zcn (K:=K) rfl (pv 4) (by rfl)) (zcn (K:=K) rfl (pv 4) (by rfl)) (zt _)) (ze4 (zx zaO (zw F_seal hr (by omega) (by rfl) (za (zcn (K:=K) rfl (pv 4) (by rfl)) zb)) (zw F_seal hr (by omega) (by rfl) (za (zcn (K:=K) rfl (pv 4) (by rfl)) zb)) (zt _))))))
 (zf (zl (zL (za zal (za zal (za zal zb))))))
 zr)
 (zf (zl (pv 3))))))),?_⟩
 refine ⟨szl (show 0≤1000 by decide),fun p0 hp0=>?_⟩
 have s0:=zo (o:=.lst []) (Same.refl H) hp0
 have e0:upd H p0 (.lst []) p0=some (.lst []):=ze
 generalize upd H p0 (.lst [])=H0 at s0 e0
 refine ⟨_,rfl,_,rfl,_,rfl,b,pp,n,qn,pvs,ts,rfl,qa.same s0,s0 _ _ epp,rp.keep (Same.tups s0),hl,hg,fun t1 t2 v1 v2 H1 x s1 r1 r2 g1 g2 ne sn ex=>?_,fun held=>⟨_,an held,fun y v H1 er=>(by cases er),fun e H1 er s1=>?_⟩⟩
 ·refine ⟨CC,rfl,.inl ⟨em,fun e he=>?_⟩⟩
  have xe:x≠e:=zh ex he
  have ex2:upd H1 e (exO e CC (some x) false) x=some (xdO x [("one",v1),("other",v2)]):=by rw [zj xe];exact ex
  have ee2:upd H1 e (exO e CC (some x) false) e=some (exO e CC (some x) false):=ze
  have s2:Same H (upd H1 e (exO e CC (some x) false)):=zo (fun b o z=>s1 b o (s0 b o z)) he
  have tk:Tups H1 (upd H1 e (exO e CC (some x) false)):=Tups.new he
  have ra:=r1.keep tk
  have rb:=r2.keep tk
  generalize upd H1 e (exO e CC (some x) false)=H2 at ex2 ee2 s2 tk ra rb
  have gd:=g1.dp
  have gd2:=g2.dp
  have gn:=g1.nd
  have gn2:=g2.nd
  refine ⟨_,rfl,?_⟩
  refine ⟨_,rfl,rfl,_,rfl,ifT rfl ?_⟩
  refine ⟨_,rfl,e,CC,false,x,_,v1,rfl,ee2,ex2,xc,n1,by rfl,_,rfl,e,CC,false,x,_,v2,rfl,ee2,ex2,xc,n2,by rfl,t1,t2,ra,rb,by omega,_,rfl,ifT (by rw [show eqT t1 t2=false from by cases z:eqT t1 t2 with | true=>exact absurd ((zbw _ _).mp z) ne | false=>rfl];rfl) ?_⟩
  refine ⟨_,rfl,e,CC,false,x,_,v1,rfl,ee2,ex2,xc,n1,by rfl,t1,v1,rfl,ra,g1.wf,by omega,by omega,fun H3 s3=>?_⟩
  refine ⟨_,rfl,e,CC,false,x,_,v2,rfl,s3 _ _ ee2,s3 _ _ ex2,xc,n2,by rfl,t2,v2,rfl,rb.keep (Same.tups s3),g2.wf,by omega,by omega,fun H4 s4=>?_⟩
  refine ⟨rfl,_,rfl,ifT (by rw [sn,decide_eq_true rfl]) ?_⟩
  refine ⟨szl (show 3≤1000 by decide),fun p hp=>?_⟩
  exact q p _ (zo (fun b o z=>s4 b o (s3 b o (s2 b o z))) hp) ze
 ·cases er
  have s01:Same H H1:=fun b o z=>s1 b o (s0 b o z)
  refine ⟨CBadThing,rfl,.inr ⟨kb.e0,kb.em,fun e he=>?_⟩⟩
  have s3:=zo (o:=exO e CBadThing none false) s01 he
  have ee:upd H1 e (exO e CBadThing none false) e=some (exO e CBadThing none false):=ze
  generalize upd H1 e (exO e CBadThing none false)=H3 at s3 ee
  have hod:∀(H:Hp) (d:Addr),(none:Option Addr)=some d→∃l,H d=some (xdO d l):=fun _ d z=>nomatch z
  refine ⟨_,rfl,e,CBadThing,none,false,_,true,rfl,ee,kb.kd,hod H3,?_,.inr (.inl ⟨_,rfl,kb.k1⟩)⟩
  refine ⟨_,rfl,e,CBadThing,none,false,_,true,rfl,ee,kb.kd,hod H3,?_,.inl ⟨_,rfl,kb.k3⟩⟩
  refine ⟨szl (show 2≤1000 by decide),fun p1 hp1=>?_⟩
  have s4:=zo (o:=.lst [.bl true,.bl true]) s3 hp1
  have e4:upd H3 p1 (.lst [.bl true,.bl true]) p1=some (.lst [.bl true,.bl true]):=ze
  have ee4:upd H3 p1 (.lst [.bl true,.bl true]) e=some (exO e CBadThing none false):=by rw [zj (zh ee hp1)];exact ee
  have hp1H:H p1=none:=s3.free hp1
  generalize upd H3 p1 (.lst [.bl true,.bl true])=H4 at s4 e4 ee4
  refine ⟨_,rfl,.inl ⟨rfl,_,SqL.of e4⟩,_,rfl,szl (show 4≤1000 by decide),fun p2 hp2=>?_⟩
  have s5:=zo (o:=.tup [.ref CNoPaper,.ref CNoState,.ref CNoThing,.ref CNotOn]) s4 hp2
  have e5:upd H4 p2 (.tup [.ref CNoPaper,.ref CNoState,.ref CNoThing,.ref CNotOn]) p1=some (.lst [.bl true,.bl true]):=by rw [zj (zh e4 hp2)];exact e4
  have t5:upd H4 p2 (.tup [.ref CNoPaper,.ref CNoState,.ref CNoThing,.ref CNotOn]) p2=some (.tup [.ref CNoPaper,.ref CNoState,.ref CNoThing,.ref CNotOn]):=ze
  have ee5:upd H4 p2 (.tup [.ref CNoPaper,.ref CNoState,.ref CNoThing,.ref CNotOn]) e=some (exO e CBadThing none false):=by rw [zj (zh ee4 hp2)];exact ee4
  generalize upd H4 p2 (.tup [.ref CNoPaper,.ref CNoState,.ref CNoThing,.ref CNotOn])=H5 at s5 e5 t5 ee5
  refine ⟨e,CBadThing,none,false,_,false,rfl,ee5,kb.kd,hod H5,?_,.inr (.inr ⟨p2,_,rfl,t5,?_,kb.k4⟩)⟩
  ·refine ⟨p1,_,_,rfl,rfl,e5,Nat.lt_of_lt_of_le (show 2 < 1000 by decide) (szl (Nat.le_refl _)),?_⟩
   refine ⟨_,rfl,rfl,_,rfl,ifF rfl ?_⟩
   exact ⟨_,rfl,q p1 _ (zcr s5 hp1H) ze⟩
  ·intro v hv
   simp only [List.mem_cons,List.not_mem_nil,or_false] at hv
   rcases hv with rfl | rfl | rfl | rfl <;> exact .inr ⟨_,rfl⟩
end
end Pv
namespace Pv
open PySem L2
abbrev zc7:Stmt:=top 80
theorem zbX:zm ["row","key","number","low","some"] ["row","key","number"] (zg zc7):=⟨rfl,rfl,rfl,by decide+kernel,rfl,by decide+kernel,by decide+kernel⟩
theorem mkQ1 {C x dx:Addr}{f:Str}{v:V}{H:Hp}{R:Hp→Prop}{E:XK}(hx:H x=none)(hdx:H dx=none)(h:∀H',Same H H'→(∃dx,H' x=some (.ins C dx [(f,v)]))→R H'):spI1 C f (.ref x::([v]++ [])) (upd (upd H dx (.own x)) x (.ins C dx [])) (fun u H2=>u=.non∧R H2) E:=by
 have sm:Same H (upd (upd H dx (.own x)) x (.ins C dx [])):=zcr (zo (Same.refl H) hdx) hx
 exact ⟨x,dx,v,rfl,ze,fun H' f e=>⟨rfl,h H' (fun c o z=>f c o (zh z hx) (sm c o z)) ⟨dx,e⟩⟩⟩
theorem mkQ2 {C x dx:Addr}{f g:Str}{v u:V}{H:Hp}{R:Hp→Prop}{E:XK}(hx:H x=none)(hdx:H dx=none)(h:∀H',Same H H'→(∃dx,H' x=some (.ins C dx [(f,v),(g,u)]))→R H'):spI2 C f g (.ref x::([v,u]++ [])) (upd (upd H dx (.own x)) x (.ins C dx [])) (fun u H2=>u=.non∧R H2) E:=by
 have sm:Same H (upd (upd H dx (.own x)) x (.ins C dx [])):=zcr (zo (Same.refl H) hdx) hx
 exact ⟨x,dx,v,u,rfl,ze,fun H' f e=>⟨rfl,h H' (fun c o z=>f c o (zh z hx) (sm c o z)) ⟨dx,e⟩⟩⟩
theorem QAt.frm {cl:Kd→Addr}{H H':Hp}{qn:Qn}{b row:Addr}(h:QAt cl H qn b)(f:Frm [row] H H')(R:RowV H row):QAt cl H' qn b:=by
 obtain ⟨dx,fs,e,g⟩:=h
 have tk:Tups H H':=fun c xs z=>f c _ (not1 fun y=>R.noT c (by rw [y];exact List.mem_singleton.mpr rfl) xs z) z
 refine ⟨dx,fs,f _ _ (not1 fun y=>?_) e,Qn.fs_keep tk g⟩
 obtain ⟨x,m,e',_⟩:=R
 rw [y,e'] at e
 cases e
def zeK (k i:Int)(q:Qn):Prop:=∃l,l < k∧(q=.find (.int k)∨q=.str (.int k) (.int (k+1))∨q=.cnt (.int k) (.int (k+1))∨q=.nth i∨q=.put (.int k) (.str "w")∨q=.cut (.int k)∨q=.str (.int l) (.int (k+1))∨q=.str .non .non∨q=.str (.int k) .non)
def zkR (cl:Kd→Addr):Sp:=fun vs H Q _=>∃(row:Addr) (k i:Int),vs=[.ref row,.int k,.int i]∧RowV H row∧∀qn b H',zeK k i qn→Frm [row] H H'→RowV H' row→QAt cl H' qn b→Q (.ref b) H'
section
variable {P:Program}{w:World}{K:PySem.W.Frag}{mg:Str→Option Value}{base:Heap}{cl:Kd→Addr}
theorem zlq (D:Dfn K mg "_law_ask" zc7 ["row","key","number"]) (F_law_take:Fn P w K mg base "_law_take" 1 ["row","many"] zcF)
  (K_Find:Mkr P w K mg base "Find" (cl .fi) 1 ["self","key"] (spI1 (cl .fi) "key")) (K_Stretch:Mkr P w K mg base "Stretch" (cl .st) 1 ["self","low","high"] (spI2 (cl .st) "low" "high")) (K_Count:Mkr P w K mg base "Count" (cl .co) 1 ["self","low","high"] (spI2 (cl .co) "low" "high"))
  (K_Nth:Mkr P w K mg base "Nth" (cl .nt) 1 ["self","number"] (spI1 (cl .nt) "number")) (K_Put:Mkr P w K mg base "Put" (cl .pu) 1 ["self","key","worth"] (spI2 (cl .pu) "key" "worth")) (K_Cut:Mkr P w K mg base "Cut" (cl .cu) 1 ["self","key"] (spI1 (cl .cu) "key")):Fn P w K mg base "_law_ask" 3 ["row","key","number"] (zkR cl):=by
 refine D.ok (k:=2) zbX (fun vs H Q E h=>?_) (fun f cdv A outer s H vs Q E hr h=>?_)
 ·obtain ⟨row,k,i,rfl,_⟩:=h;rfl
 obtain ⟨row,k,i,rfl,R0,q⟩:=h
 refine ⟨_,(zc (zq (i:=3) zbX.nd rfl (Or.inl rfl) (zA zbK (zA zbK (pv 1) zd) (zw F_law_take hr (by omega) (by rfl) (za (pv 0) (za zd zb)))))
 (zc (zq (i:=4) zbX.nd rfl (Or.inl rfl) (zL (za (zah K_Find hr (by omega) (by rfl) (za (pv 1) zb)) (za (zah K_Stretch hr (by omega) (by rfl) (za (pv 1) (za (zA zT (pv 1) zd) zb))) (za (zah K_Count hr (by omega) (by rfl) (za (pv 1) (za (zA zT (pv 1) zd) zb))) (za (zah K_Nth hr (by omega) (by rfl) (za (pv 2) zb)) (za (zah K_Put hr (by omega) (by rfl) (za (pv 1) (za z7 zb))) (za (zah K_Cut hr (by omega) (by rfl) (za (pv 1) zb)) zb))))))))
 (zc (zq (i:=4) zbX.nd rfl (Or.inl rfl) (zA zdY (pv 4) (zL (za (zah K_Stretch hr (by omega) (by rfl) (za (pv 3) (za (zA zT (pv 1) zd) zb))) (za (zah K_Stretch hr (by omega) (by rfl) (za zJ (za zJ zb))) (za (zah K_Stretch hr (by omega) (by rfl) (za (pv 1) (za zJ zb))) zb))))))
 (zf (zl (zz zI (pv 4) (zw F_law_take hr (by omega) (by rfl) (za (pv 0) (za zd zb))) (fun _ _=>rfl))))))),?_⟩
 refine ⟨_,rfl,_,_,rfl,rfl,_,rfl,row,_,rfl,R0,(show (0:Int) < 5 by decide),(by decide+kernel),fun r H1 r0 r1 f1 R1=>⟨_,_,rfl,rfl,?_⟩⟩
 refine ⟨_,rfl,fun b1 d1 hb1 hd1 _=>mkQ1 hb1 hd1 fun H2 s2 ⟨d1,e1⟩=>?_⟩
 refine ⟨_,rfl,_,rfl,_,_,rfl,rfl,fun b2 d2 hb2 hd2 _=>mkQ2 hb2 hd2 fun H3 s3 ⟨d2,e2⟩=>?_⟩
 refine ⟨_,rfl,_,rfl,_,_,rfl,rfl,fun b3 d3 hb3 hd3 _=>mkQ2 hb3 hd3 fun H4 s4 ⟨d3,e3⟩=>?_⟩
 refine ⟨_,rfl,fun b4 d4 hb4 hd4 _=>mkQ1 hb4 hd4 fun H5 s5 ⟨d4,e4⟩=>?_⟩
 refine ⟨_,rfl,fun b5 d5 hb5 hd5 _=>mkQ2 hb5 hd5 fun H6 s6 ⟨d5,e5⟩=>?_⟩
 refine ⟨_,rfl,fun b6 d6 hb6 hd6 _=>mkQ1 hb6 hd6 fun H7 s7 ⟨d6,e6⟩=>?_⟩
 refine ⟨szl (show 6≤1000 by decide),fun p1 hp1=>?_⟩
 have s8:=zo (o:=.lst [.ref b1,.ref b2,.ref b3,.ref b4,.ref b5,.ref b6]) (Same.refl H7) hp1
 have ep:upd H7 p1 (.lst [.ref b1,.ref b2,.ref b3,.ref b4,.ref b5,.ref b6]) p1=some (.lst [.ref b1,.ref b2,.ref b3,.ref b4,.ref b5,.ref b6]):=ze
 generalize upd H7 p1 (.lst [.ref b1,.ref b2,.ref b3,.ref b4,.ref b5,.ref b6])=H8 at s8 ep
 refine ⟨_,rfl,_,rfl,_,rfl,_,_,rfl,rfl,fun b7 d7 hb7 hd7 _=>mkQ2 hb7 hd7 fun H9 s9 ⟨d7,e7⟩=>?_⟩
 refine fun b8 d8 hb8 hd8 _=>mkQ2 hb8 hd8 fun H10 s10 ⟨d8,e8⟩=>?_
 refine ⟨_,rfl,fun b9 d9 hb9 hd9 _=>mkQ2 hb9 hd9 fun H11 s11 ⟨d9,e9⟩=>?_⟩
 refine ⟨szl (show 3≤1000 by decide),fun p2 hp2=>?_⟩
 have s12:=zo (o:=.lst [.ref b7,.ref b8,.ref b9]) (Same.refl H11) hp2
 have ep2:upd H11 p2 (.lst [.ref b7,.ref b8,.ref b9]) p2=some (.lst [.ref b7,.ref b8,.ref b9]):=ze
 generalize upd H11 p2 (.lst [.ref b7,.ref b8,.ref b9])=H12 at s12 ep2
 have ep1:=s12 _ _ (s11 _ _ (s10 _ _ (s9 _ _ ep)))
 refine ⟨p1,p2,_,_,rfl,rfl,ep1,ep2,szl (show 9≤1000 by decide),fun p3 hp3=>?_⟩
 have s13:=zo (o:=.lst ([.ref b1,.ref b2,.ref b3,.ref b4,.ref b5,.ref b6]++ [.ref b7,.ref b8,.ref b9])) (Same.refl H12) hp3
 have ep3:upd H12 p3 (.lst ([.ref b1,.ref b2,.ref b3,.ref b4,.ref b5,.ref b6]++ [.ref b7,.ref b8,.ref b9])) p3=some (.lst [.ref b1,.ref b2,.ref b3,.ref b4,.ref b5,.ref b6,.ref b7,.ref b8,.ref b9]):=ze
 generalize upd H12 p3 (.lst ([.ref b1,.ref b2,.ref b3,.ref b4,.ref b5,.ref b6]++ [.ref b7,.ref b8,.ref b9]))=H13 at s13 ep3
 have sm:Same H1 H13:=fun b o z=>s13 b o (s12 b o (s11 b o (s10 b o (s9 b o (s8 b o (s7 b o (s6 b o (s5 b o (s4 b o (s3 b o (s2 b o z)))))))))))
 have R13:=R1.keep sm
 have F13:Frm [row] H H13:=f1.trans (Frm.of sm)
 have t9:Same H9 H13:=fun b o z=>s13 b o (s12 b o (s11 b o (s10 b o z)))
 have t7:Same H7 H13:=fun b o z=>t9 b o (s9 b o (s8 b o z))
 have t5:Same H5 H13:=fun b o z=>t7 b o (s7 b o (s6 b o z))
 have t3:Same H3 H13:=fun b o z=>t5 b o (s5 b o (s4 b o z))
 have a1:QAt cl H13 (.find (.int k)) b1:=⟨d1,_,t3 _ _ (s3 _ _ e1),_,rfl,.int k⟩
 have a2:QAt cl H13 (.str (.int k) (.int (k+1))) b2:=⟨d2,_,t3 _ _ e2,_,_,rfl,.int _,.int _⟩
 have a3:QAt cl H13 (.cnt (.int k) (.int (k+1))) b3:=⟨d3,_,t5 _ _ (s5 _ _ e3),_,_,rfl,.int _,.int _⟩
 have a4:QAt cl H13 (.nth i) b4:=⟨d4,_,t5 _ _ e4,rfl⟩
 have a5:QAt cl H13 (.put (.int k) (.str "w")) b5:=⟨d5,_,t7 _ _ (s7 _ _ e5),_,_,rfl,.int _,.str _⟩
 have a6:QAt cl H13 (.cut (.int k)) b6:=⟨d6,_,t7 _ _ e6,_,rfl,.int _⟩
 have a7:QAt cl H13 (.str (.int (k - 1 - r)) (.int (k+1))) b7:=⟨d7,_,t9 _ _ e7,_,_,rfl,.int _,.int _⟩
 have a8:QAt cl H13 (.str .non .non) b8:=⟨d8,_,s13 _ _ (s12 _ _ (s11 _ _ e8)),_,_,rfl,.non,.non⟩
 have a9:QAt cl H13 (.str (.int k) .non) b9:=⟨d9,_,s13 _ _ (s12 _ _ e9),_,_,rfl,.int _,.non⟩
 refine ⟨_,rfl,_,rfl,row,_,rfl,R13,(show (0:Int) < 9 by decide),(by decide+kernel),fun j H14 j0 j1 f14 R14=>?_⟩
 have F14:Frm [row] H H14:=F13.trans f14
 have n3:p3≠row:=fun z=>by
  obtain ⟨x,m,e',_⟩:=R13
  rw [z,e'] at ep3
  cases ep3
 have ep4:SqL K H14 p3 _:=SqL.of (f14 _ _ (not1 n3) ep3)
 have hl:k - 1 - r < k:=by omega
 rcases (show j=0∨j=1∨j=2∨j=3∨j=4∨j=5∨j=6∨j=7∨j=8 by omega) with rfl | rfl | rfl | rfl | rfl | rfl | rfl | rfl | rfl
 ·exact ⟨p3,_,_,_,rfl,rfl,ep4,rfl,q _ b1 H14 ⟨_,hl,.inl rfl⟩ F14 R14 (a1.frm f14 R13)⟩
 ·exact ⟨p3,_,_,_,rfl,rfl,ep4,rfl,q _ b2 H14 ⟨_,hl,.inr (.inl rfl)⟩ F14 R14 (a2.frm f14 R13)⟩
 ·exact ⟨p3,_,_,_,rfl,rfl,ep4,rfl,q _ b3 H14 ⟨_,hl,.inr (.inr (.inl rfl))⟩ F14 R14 (a3.frm f14 R13)⟩
 ·exact ⟨p3,_,_,_,rfl,rfl,ep4,rfl,q _ b4 H14 ⟨_,hl,.inr (.inr (.inr (.inl rfl)))⟩ F14 R14 (a4.frm f14 R13)⟩
 ·exact ⟨p3,_,_,_,rfl,rfl,ep4,rfl,q _ b5 H14 ⟨_,hl,.inr (.inr (.inr (.inr (.inl rfl))))⟩ F14 R14 (a5.frm f14 R13)⟩
 ·exact ⟨p3,_,_,_,rfl,rfl,ep4,rfl,q _ b6 H14 ⟨_,hl,.inr (.inr (.inr (.inr (.inr (.inl rfl)))))⟩ F14 R14 (a6.frm f14 R13)⟩
 ·exact ⟨p3,_,_,_,rfl,rfl,ep4,rfl,q _ b7 H14 ⟨_,hl,.inr (.inr (.inr (.inr (.inr (.inr (.inl rfl))))))⟩ F14 R14 (a7.frm f14 R13)⟩
 ·exact ⟨p3,_,_,_,rfl,rfl,ep4,rfl,q _ b8 H14 ⟨_,hl,.inr (.inr (.inr (.inr (.inr (.inr (.inr (.inl rfl)))))))⟩ F14 R14 (a8.frm f14 R13)⟩
 ·exact ⟨p3,_,_,_,rfl,rfl,ep4,rfl,q _ b9 H14 ⟨_,hl,.inr (.inr (.inr (.inr (.inr (.inr (.inr (.inr rfl)))))))⟩ F14 R14 (a9.frm f14 R13)⟩
end
end Pv
namespace Pv
open PySem L2
theorem zak {i:Int}(h0: -(10 ^ 30)≤i)(h1:i≤10 ^ 30):KeyT (.int i):=⟨⟨h0,h1⟩,by show (0:Nat)≤3;decide,by show (1:Nat)≤10;decide,fun z=>by cases z⟩
theorem zcO {a b:Int}:zu (.int a) (.int b)=decide (a < b):=by unfold zu;rfl
theorem gl_int {a b:Int}:zad (.int a) (.int b)=decide (a < b):=by unfold zad;rw [zcO];rfl
theorem zd7 {a b:Int}:zav (.int a) (.int b)=decide (b < a):=by unfold zav;rw [zcO];rfl
theorem zb4 {k:Th}:zad .non k=true:=rfl
theorem zbI {k:Th}:zav .non k=true:=rfl
theorem zbH {a b:Int}(h:a < b):zai (.int a) (.int b)=false:=by
 unfold zai
 rw [zcO,decide_eq_true h]
 rfl
theorem zc5 {b:Th}:zai .non b=false:=rfl
theorem zfu {a:Int}:zai (.int a) .non=false:=rfl
theorem zbp {i:Int}:dep (.int i)≤3:=Nat.zero_le _
theorem ne_i {a b:Int}(h:a≠b):(Th.int a)≠ .int b:=fun z=>h (Th.int.inj z)
section
variable {cs:List (Int ×Th)}{n k i:Int}{qn:Qn}
theorem ziD (hn:n≠0)(e:ben cs n 301=.error true)(h0:0≤k)(h1:k≤200)(hi:0≤i)(h:zeK k i qn):Ans cs n qn (.error true):=by
 have kk:KeyT (.int k):=zak (by omega) (by omega)
 have kk1:KeyT (.int (k+1)):=zak (by omega) (by omega)
 have w:∀x,Way cs x n 301 [] (some true):=fun x=>.bad hn e
 have st:∀lo hi,StW cs lo hi 0 n [] [] 301 (.error true):=fun lo hi=>.bad hn e
 obtain ⟨l,hl,h⟩:=h
 rcases h with rfl | rfl | rfl | rfl | rfl | rfl | rfl | rfl | rfl
 ·exact ⟨kk,_,_,w _,Nat.zero_le _,.inl ⟨_,rfl,rfl⟩⟩
 ·exact ⟨zbp,zbH (by omega),0,_,st _ _,by omega,.inl ⟨_,rfl,rfl⟩⟩
 ·exact ⟨zbp,zbH (by omega),kk1,_,_,w _,Nat.zero_le _,rfl⟩
 ·exact ⟨hi,0,_,.bad hn e,.inl ⟨_,rfl,rfl⟩⟩
 ·exact ⟨kk,_,_,w _,Nat.zero_le _,rfl⟩
 ·exact ⟨kk,_,_,w _,Nat.zero_le _,rfl⟩
 ·exact ⟨zbp,zbH (by omega),0,_,st _ _,by omega,.inl ⟨_,rfl,rfl⟩⟩
 ·exact ⟨Nat.zero_le _,zc5,0,_,st _ _,by omega,.inl ⟨_,rfl,rfl⟩⟩
 ·exact ⟨zbp,zfu,0,_,st _ _,by omega,.inl ⟨_,rfl,rfl⟩⟩
theorem zcD {m:Int}:zV cs 0 m=.ok 0:=if_pos rfl
theorem zgb {s m:Int}{b:Bool}(h:s≠0)(e:ben cs s m=.error b):zV cs s m=.error b:=by rw [zed h,e];rfl
theorem zcG {s m:Int}{nd:Nd}(h:s≠0)(e:ben cs s m=.ok nd):zV cs s m=.ok nd.c:=by rw [zed h,e];rfl
theorem zjn {nd:Nd}{t:Int}(hn:n≠0)(e:ben cs n 301=.ok nd)(ek:nd.k=.int t)(hs:nd.l≠0)(eb:ben cs nd.l nd.c=.error true)(h0:0≤k)(h1:k≤200)(ht:k+2≤t)(ht1:t≤200)(h:zeK k 0 qn):Ans cs n qn (.error true):=by
 have kk:KeyT (.int k):=zak (by omega) (by omega)
 have kk1:KeyT (.int (k+1)):=zak (by omega) (by omega)
 have kt:KeyT nd.k:=by rw [ek];exact zak (by omega) (by omega)
 have nc:=(zkz e).2.1.c1
 have w:∀x:Int,x < t→Way cs (.int x) n 301 [nd] (some true):=fun x hx=>.step hn e kt (by rw [ek];exact ne_i (by omega)) (by
  rw [ek,zcO,if_neg (by rw [decide_eq_false (by omega)];exact Bool.false_ne_true)]
  exact .bad hs eb)
 have st:∀lo hi,zad lo nd.k=true→∃j,j≤100∧StW cs lo hi j n [] [] 301 (.error true):=fun lo hi gl=>by
  cases gr:zav hi nd.k with
  | true=>exact ⟨0,by omega,.sum hn e kt gl gr (.inl (zgb hs eb))⟩
  | false=>exact ⟨1,by omega,.push hn e kt (fun _ z=>by rw [gr] at z;cases z) (by rw [if_pos gl];exact .bad hs eb)⟩
 have sa:∀lo hi,dep lo≤3→zai lo hi=false→zad lo nd.k=true→Ans cs n (.str lo hi) (.error true):=fun lo hi d em gl=>by
  obtain ⟨j,hj,w⟩:=st lo hi gl
  exact ⟨d,em,j,_,w,hj,.inl ⟨_,rfl,rfl⟩⟩
 obtain ⟨l,hl,h⟩:=h
 rcases h with rfl | rfl | rfl | rfl | rfl | rfl | rfl | rfl | rfl
 ·exact ⟨kk,_,_,w k (by omega),by simp,.inl ⟨_,rfl,rfl⟩⟩
 ·exact sa _ _ zbp (zbH (by omega)) (by rw [ek,gl_int,decide_eq_true (by omega)])
 ·exact ⟨zbp,zbH (by omega),kk1,_,_,w (k+1) (by omega),by simp,rfl⟩
 ·exact ⟨Int.le_refl 0,0,_,.badL hn e (by omega) (zgb hs eb),.inl ⟨_,rfl,rfl⟩⟩
 ·exact ⟨kk,_,_,w k (by omega),by simp,rfl⟩
 ·exact ⟨kk,_,_,w k (by omega),by simp,rfl⟩
 ·exact sa _ _ zbp (zbH (by omega)) (by rw [ek,gl_int,decide_eq_true (by omega)])
 ·exact sa _ _ (Nat.zero_le _) zc5 zb4
 ·exact sa _ _ zbp zfu (by rw [ek,gl_int,decide_eq_true (by omega)])
theorem zhx {nd:Nd}{t:Int}(hn:n≠0)(e:ben cs n 301=.ok nd)(ek:nd.k=.int t)(hl0:nd.l=0)(hc:1 < nd.c)(hs:nd.r≠0)(eb:ben cs nd.r nd.c=.error true)(h0:0≤t)(h1:k≤200)(ht:t+2≤k)(h:zeK k 1 qn):Ans cs n qn (.error true):=by
 have kk:KeyT (.int k):=zak (by omega) (by omega)
 have kk1:KeyT (.int (k+1)):=zak (by omega) (by omega)
 have kt:KeyT nd.k:=by rw [ek];exact zak (by omega) (by omega)
 have w:∀x:Int,t < x→Way cs (.int x) n 301 [nd] (some true):=fun x hx=>.step hn e kt (by rw [ek];exact ne_i (by omega)) (by
  rw [ek,zcO,if_pos (decide_eq_true (by omega))]
  exact .bad hs eb)
 have st:∀lo hi,zav hi nd.k=true→∃j,j≤100∧StW cs lo hi j n [] [] 301 (.error true):=fun lo hi gr=>by
  cases gl:zad lo nd.k with
  | true=>exact ⟨0,by omega,.sum hn e kt gl gr (.inr (.inl ⟨0,by rw [hl0];exact zcD,zgb hs eb⟩))⟩
  | false=>
   refine ⟨2,by omega,.push hn e kt (fun z=>by rw [gl] at z;cases z) ?_⟩
   rw [if_neg (by rw [gl];exact Bool.false_ne_true)]
   refine StW.pop (bg:=[]) kt ?_
   rw [if_pos gr]
   exact .bad hs eb
 have sa:∀lo hi,dep lo≤3→zai lo hi=false→zav hi nd.k=true→Ans cs n (.str lo hi) (.error true):=fun lo hi d em gr=>by
  obtain ⟨j,hj,w⟩:=st lo hi gr
  exact ⟨d,em,j,_,w,hj,.inl ⟨_,rfl,rfl⟩⟩
 obtain ⟨l,hl,h⟩:=h
 rcases h with rfl | rfl | rfl | rfl | rfl | rfl | rfl | rfl | rfl
 ·exact ⟨kk,_,_,w k (by omega),by simp,.inl ⟨_,rfl,rfl⟩⟩
 ·exact sa _ _ zbp (zbH (by omega)) (by rw [ek,zd7,decide_eq_true (by omega)])
 ·exact ⟨zbp,zbH (by omega),kk1,_,_,w (k+1) (by omega),by simp,rfl⟩
 ·exact ⟨by decide,1,_,.right hn e hc (by rw [hl0];exact zcD) (by decide) (.bad hs eb),.inl ⟨_,rfl,rfl⟩⟩
 ·exact ⟨kk,_,_,w k (by omega),by simp,rfl⟩
 ·exact ⟨kk,_,_,w k (by omega),by simp,rfl⟩
 ·exact sa _ _ zbp (zbH (by omega)) (by rw [ek,zd7,decide_eq_true (by omega)])
 ·exact sa _ _ (Nat.zero_le _) zc5 zbI
 ·exact sa _ _ zbp zfu zbI
theorem zhe {nd:Nd}{lo hi:Th}{x y:Int}(hn:n≠0)(e:ben cs n 301=.ok nd)(kt:KeyT nd.k)(gl:zad lo nd.k=true)(gr:zav hi nd.k=true)(sl:zV cs nd.l nd.c=.ok x)(sr:zV cs nd.r nd.c=.ok y)(ne:x+y+1≠nd.c)(d:dep lo≤3)(em:zai lo hi=false):Ans cs n (.str lo hi) (.error true):=
 ⟨d,em,0,_,.sum hn e kt gl gr (.inr (.inr ⟨x,y,sl,sr,ne,rfl⟩)),by omega,.inl ⟨_,rfl,rfl⟩⟩
structure Two (cs:List (Int ×Th))(n s:Int)(top bot:Nd):Prop where
 hn:n≠0
 hs:s≠0
 et:ben cs n 301=.ok top
 eb:∀m,1 < m→ben cs s m=.ok bot
 kt:KeyT top.k
 kb:KeyT bot.k
 c2:top.c=2
 c1:bot.c=1
 bl:bot.l=0
 br:bot.r=0
theorem Two.sumB {s:Int}{top bot:Nd}(h:Two cs n s top bot):SumO cs bot:=⟨0,0,by rw [h.bl];exact zcD,by rw [h.br];exact zcD,by rw [h.c1];rfl⟩
theorem Two.left {s:Int}{top bot:Nd}(h:Two cs n s top bot)(hl:top.l=s)(hr:top.r=0):Ans cs n (.str .non .non) (.ok (.ls [zab (bot.k,bot.w),zab (top.k,top.w)]))∧Ans cs n (.nth 0) (.ok (.th (zab (bot.k,bot.w)))):=by
 have eb:=h.eb 2 (by decide)
 have so:SumO cs top:=⟨1,0,by rw [hl,h.c2,zcG h.hs eb,h.c1],by rw [hr];exact zcD,by rw [h.c2];rfl⟩
 refine ⟨⟨Nat.zero_le _,zc5,4,.ok [(bot.k,bot.w),(top.k,top.w)],?_,by omega,.inr ⟨_,rfl,rfl⟩⟩,by decide,1,_,.left h.hn h.et (by rw [h.c2];decide) (by rw [hl,h.c2];exact zcG h.hs eb) (by rw [h.c1];decide) (.own (by rw [hl];exact h.hs) (by rw [hl,h.c2];exact eb) (by rw [h.c1];decide) (by rw [h.bl];exact zcD)),.inr ⟨_,rfl,rfl⟩⟩
 refine .push h.hn h.et h.kt (fun _ _=>so) ?_
 rw [if_pos zb4,hl,h.c2]
 refine .push h.hs eb h.kb (fun _ _=>h.sumB) ?_
 rw [if_pos zb4,h.bl]
 refine StW.pop (bg:=[top]) h.kb ?_
 rw [if_pos zbI,h.br]
 refine StW.pop (bg:=[]) h.kt ?_
 rw [if_pos zbI,hr]
 exact .done
theorem Two.right {s:Int}{top bot:Nd}(h:Two cs n s top bot)(hl:top.l=0)(hr:top.r=s):Ans cs n (.str .non .non) (.ok (.ls [zab (top.k,top.w),zab (bot.k,bot.w)]))∧Ans cs n (.nth 0) (.ok (.th (zab (top.k,top.w)))):=by
 have eb:=h.eb 2 (by decide)
 have so:SumO cs top:=⟨0,1,by rw [hl];exact zcD,by rw [hr,h.c2,zcG h.hs eb,h.c1],by rw [h.c2];rfl⟩
 refine ⟨⟨Nat.zero_le _,zc5,4,.ok [(top.k,top.w),(bot.k,bot.w)],?_,by omega,.inr ⟨_,rfl,rfl⟩⟩,by decide,0,_,.own h.hn h.et (by rw [h.c2];decide) (by rw [hl];exact zcD),.inr ⟨_,rfl,rfl⟩⟩
 refine .push h.hn h.et h.kt (fun _ _=>so) ?_
 rw [if_pos zb4,hl]
 refine StW.pop (bg:=[]) h.kt ?_
 rw [if_pos zbI,hr,h.c2]
 refine .push h.hs eb h.kb (fun _ _=>h.sumB) ?_
 rw [if_pos zb4,h.bl]
 refine StW.pop (bg:=[]) h.kb ?_
 rw [if_pos zbI,h.br]
 exact .done
theorem Two.find {s:Int}{top bot:Nd}(h:Two cs n s top bot)(ne:top.k≠bot.k)(hd:(if zu top.k bot.k=true then top.r else top.l)=s):Ans cs n (.find bot.k) (.ok (.th bot.w))∧Ans cs s (.find bot.k) (.ok (.th bot.w)):=by
 refine ⟨⟨h.kb,[top,bot],none,.step h.hn h.et h.kt ne (by rw [hd,h.c2];exact .own h.hs (h.eb 2 (by decide)) h.kb rfl),by simp,.inr ⟨rfl,[top],bot,rfl,rfl,rfl⟩⟩,h.kb,[bot],none,.own h.hs (h.eb 301 (by decide)) h.kb rfl,by simp,.inr ⟨rfl,[],bot,rfl,rfl,rfl⟩⟩
end
end Pv
namespace Pv
open PySem L2
abbrev zbZ:Stmt:=top 78
theorem zaa:zm ["node","row","key","worth","left","right","count","odd","kind"] ["node","row"] (zg zbZ):=⟨rfl,rfl,rfl,by decide+kernel,rfl,by decide+kernel,by decide+kernel⟩
def lowT (k:Int):Th:=zau (.int k) (.str "low") 0 0 1
structure Sm (t:Th):Prop where
 wf:Wf t
 dp:dep t≤2
 nd:nodes t≤5
theorem sm_L:∀{ts:List Th},(∀t∈ts,Sm t)→WfL ts∧depL ts≤2∧zbi ts≤5 * ts.length
 | [],_=>⟨trivial,Nat.zero_le _,Nat.zero_le _⟩
 | t::ts,h=>by
  obtain ⟨h1,h2,h3⟩:=sm_L (ts:=ts) fun u hu=>h u (List.mem_cons_of_mem _ hu)
  have g:=h t List.mem_cons_self
  refine ⟨⟨g.wf,h1⟩,?_,?_⟩
  ·show max (dep t) (depL ts)≤2
   have:=g.dp
   omega
  ·show nodes t+zbi ts≤5 * (ts.length+1)
   have:=g.nd
   omega
theorem zaD {ts:List Th}(h:∀t∈ts,Sm t)(hl:ts.length≤10):G5 (.tup ts):=by
 obtain ⟨h1,h2,h3⟩:=sm_L h
 refine ⟨⟨by omega,h1⟩,?_,?_⟩
 ·show depL ts+1≤5
  omega
 ·show 1+zbi ts≤80
  omega
theorem Sm.g {t:Th}(h:Sm t):G5 t:=⟨h.wf,Nat.le_trans h.dp (by decide),Nat.le_trans h.nd (by decide)⟩
theorem sm_i {i:Int}(h0: -(10 ^ 30)≤i)(h1:i≤10 ^ 30):Sm (.int i):=⟨⟨h0,h1⟩,Nat.zero_le _,by show (1:Nat)≤5;decide⟩
theorem sm_n:Sm .non:=⟨trivial,Nat.zero_le _,by show (1:Nat)≤5;decide⟩
theorem sm_s {x:Str}(h:zgX x):Sm (.str x):=⟨h,Nat.zero_le _,by show (1:Nat)≤5;decide⟩
theorem sm_1:Sm (.tup [.int 1]):=⟨⟨by show (1:Nat)≤40;decide,⟨by decide,by decide⟩,trivial⟩,by show (1:Nat)≤2;decide,by show (2:Nat)≤5;decide⟩
theorem sm_5 {a b c d e:Th}(ha:Sm a)(hb:Sm b)(hc:Sm c)(hd:Sm d)(he:Sm e):∀t∈ [a,b,c,d,e],Sm t:=by
 intro t ht
 simp only [List.mem_cons,List.not_mem_nil,or_false] at ht
 rcases ht with rfl | rfl | rfl | rfl | rfl <;> assumption
theorem Frm.tupsR {H H':Hp}{row:Addr}(f:Frm [row] H H')(R:RowV H row):Tups H H':=fun c xs z=>f c _ (not1 fun y=>R.noT c (by rw [y];exact List.mem_singleton.mpr rfl) xs z) z
structure Odd (t:Th):Prop where
 s:Sm t
 r:isR t=false
theorem zk0 {i:Int}(h0: -(10 ^ 30)≤i)(h1:i < 0):Odd (.int i):=⟨sm_i h0 (by omega),decide_eq_false (by omega)⟩
structure OddC (t:Th):Prop where
 s:Sm t
 c:zfM t=false
theorem za7 {H:Hp}{p:Addr}{ts:List Th}{vs:List V}(e:H p=some (.tup vs))(r:RepL H ts vs):Rep H (.tup ts) (.ref p):=.tup e r.len r.at
theorem zio {k w l r c:Th}:isN (.tup [k,w,l,r,c])=(!decide (k=.non) && (!decide (w=.non) && (isR l && (isR r && zfM c)))):=rfl
def zkS:Sp:=fun vs H Q _=>∃(row:Addr) (k:Int) (v:V),vs=[v,.ref row]∧RowV H row∧Rep H (lowT k) v∧0≤k∧k≤200∧∀t v' H',isN t=false→G5 t→Rep H' t v'→Frm [row] H H'→RowV H' row→Q v' H'
seal PE PS PSs PT PA PI PTs PW PG PGs PO
section
variable {P:Program}{w:World}{K:PySem.W.Frag}{mg:Str→Option Value}{base:Heap}
theorem zlE (D:Dfn K mg "_law_spoilt" zbZ ["node","row"]) (F_law_take:Fn P w K mg base "_law_take" 1 ["row","many"] zcF):Fn P w K mg base "_law_spoilt" 2 ["node","row"] zkS:=by
 refine D.ok (k:=1) zaa (fun vs H Q E h=>?_) (fun f cdv A outer s H vs Q E hr h=>?_)
 ·obtain ⟨row,k,v,rfl,_⟩:=h;rfl
 obtain ⟨row,k,v,rfl,R0,rn,h0,h1,q⟩:=h
 obtain ⟨p,vk,vw,rfl,ea,rk,rw'⟩:=zK rn
 cases rk
 cases rw'
 refine ⟨_,(zc (zfc (pv 0) (zjs rfl (zaR (zX (i:=2) zaa.nd rfl (Or.inl rfl)) (zaR (zX (i:=3) zaa.nd rfl (Or.inl rfl)) (zaR (zX (i:=4) zaa.nd rfl (Or.inl rfl)) (zaR (zX (i:=5) zaa.nd rfl (Or.inl rfl)) (zaR (zX (i:=6) zaa.nd rfl (Or.inl rfl)) zeS)))))))
 (zc (zq (i:=7) zaa.nd rfl (Or.inl rfl) (zz zI (zL (za (zdr zco zd) (za zJ (za z7 (za (zP (za zd zb)) (za (zA zbK (zdr zco zd) (zw F_law_take hr (by omega) (by rfl) (za (pv 1) (za zd zb)))) zb)))))) (zw F_law_take hr (by omega) (by rfl) (za (pv 1) (za zd zb))) (fun _ _=>rfl)))
 (zc (zq (i:=8) zaa.nd rfl (Or.inl rfl) (zw F_law_take hr (by omega) (by rfl) (za (pv 1) (za zd zb))))
 (zc (zD (zx zaO (pv 8) zd (zt _))
 (zf (zl (zbP zf7 (pv 0) zc4 (zbY zd))))
 zr)
 (zc (zD (zx zaO (pv 8) zd (zt _))
 (zf (zl (zA zdg (pv 0) (zP (za zd zb)))))
 zr)
 (zc (zD (zx zaO (pv 8) zd (zt _))
 (zf (zl (zP (za zJ (za (pv 3) (za (pv 4) (za (pv 5) (za (pv 6) zb))))))))
 zr)
 (zc (zD (zx zaO (pv 8) zd (zt _))
 (zf (zl (zP (za (pv 2) (za zJ (za (pv 4) (za (pv 5) (za (pv 6) zb))))))))
 zr)
 (zc (zD (zx zaO (pv 8) zd (zt _))
 (zf (zl (zP (za (pv 2) (za (pv 3) (za (pv 7) (za (pv 5) (za (pv 6) zb))))))))
 zr)
 (zc (zD (zx zaO (pv 8) zd (zt _))
 (zf (zl (zP (za (pv 2) (za (pv 3) (za (pv 4) (za (pv 7) (za (pv 6) zb))))))))
 zr)
 (zc (zD (zx zaO (pv 8) zd (zt _))
 (zf (zl (zP (za (pv 2) (za (pv 3) (za (pv 4) (za (pv 5) (za (zz zI (zL (za zd (za zd (za (zdr zco zd) (za (zA zcQ zd zd) (za zJ (za z7 (za (zP (za zd zb)) zb)))))))) (zw F_law_take hr (by omega) (by rfl) (za (pv 1) (za zd zb))) (fun _ _=>rfl)) zb))))))))
 zr)
 (zf (zl (zz zI (zL (za zJ (za zd (za z7 (za (zP zb) (za (zP (za z7 (za zd zb))) zb)))))) (zw F_law_take hr (by omega) (by rfl) (za (pv 1) (za zd zb))) (fun _ _=>rfl)))))))))))))),?_⟩
 refine ⟨_,rfl,p,_,rfl,SqT.of ea,rfl,?_⟩
 have sk:Sm (.int k):=sm_i (by omega) (by omega)
 have sw:Sm (.str "low"):=sm_s (by constructor <;> decide+kernel)
 have s0:Sm (.int 0):=sm_i (by decide) (by decide)
 have s1:Sm (.int 1):=sm_i (by decide) (by decide)
 refine ⟨_,_,rfl,_,_,rfl,_,_,rfl,_,_,rfl,_,_,rfl,rfl,?_⟩
 refine ⟨_,rfl,szl (show 1≤1000 by decide),fun p1 hp1=>?_⟩
 have R1:=R0.new (o:=.tup [.int 1]) hp1
 have F1:Frm [row] H (upd H p1 (.tup [.int 1])):=Frm.new hp1
 have e1:upd H p1 (.tup [.int 1]) p1=some (.tup [.int 1]):=ze
 have ea1:upd H p1 (.tup [.int 1]) p=some _:=(F1.tupsR R0) _ _ ea
 generalize upd H p1 (.tup [.int 1])=H1 at R1 F1 e1 ea1
 refine ⟨_,rfl,_,rfl,row,_,rfl,R1,(show (0:Int) < 90 by decide),(by decide+kernel),fun x H2 x0 x1 f2 R2=>⟨_,_,rfl,rfl,?_⟩⟩
 have e2:=(f2.tupsR R1) _ _ e1
 have ea2:=(f2.tupsR R1) _ _ ea1
 refine ⟨szl (show 5≤1000 by decide),fun p2 hp2=>?_⟩
 have R3:=R2.new (o:=.lst [.int (-1),.non,.str "a",.ref p1,.int (-5 - x)]) hp2
 have F3:Frm [row] H2 (upd H2 p2 (.lst [.int (-1),.non,.str "a",.ref p1,.int (-5 - x)])):=Frm.new hp2
 have e3:upd H2 p2 (.lst [.int (-1),.non,.str "a",.ref p1,.int (-5 - x)]) p2=some (.lst [.int (-1),.non,.str "a",.ref p1,.int (-5 - x)]):=ze
 have n2:=R2.ne hp2
 have e13:=(F3.tupsR R2) _ _ e2
 have ea3:=(F3.tupsR R2) _ _ ea2
 have G3:Frm [row] H _:=(F1.trans f2).trans F3
 generalize upd H2 p2 (.lst [.int (-1),.non,.str "a",.ref p1,.int (-5 - x)])=H3 at R3 F3 e3 e13 ea3 G3
 refine ⟨_,rfl,row,_,rfl,R3,(show (0:Int) < 5 by decide),(by decide+kernel),fun j H4 j0 j1 f4 R4=>?_⟩
 have l4:SqL K H4 p2 [.int (-1),.non,.str "a",.ref p1,.int (-5 - x)]:=SqL.of (f4 _ _ (not1 n2) e3)
 have e14:=(f4.tupsR R3) _ _ e13
 have ea4:=(f4.tupsR R3) _ _ ea3
 have G4:=G3.trans f4
 obtain ⟨od,vo,eo,ro,oo⟩:∃(od:Th) (vo:V),atI [.int (-1),.non,.str "a",.ref p1,.int (-5 - x)] j=some vo∧Rep H4 od vo∧Odd od:=by
  rcases (show j=0∨j=1∨j=2∨j=3∨j=4 by omega) with rfl | rfl | rfl | rfl | rfl
  ·exact ⟨.int (-1),_,rfl,.int _,zk0 (by decide) (by decide)⟩
  ·exact ⟨.non,_,rfl,.non,sm_n,rfl⟩
  ·exact ⟨.str "a",_,rfl,.str _,sm_s (by constructor <;> decide+kernel),rfl⟩
  ·exact ⟨.tup [.int 1],_,rfl,za7 e14 (.cons (.int 1) .nil),sm_1,rfl⟩
  ·exact ⟨.int (-5 - x),_,rfl,.int _,zk0 (by omega) (by omega)⟩
 refine ⟨p2,_,_,_,rfl,rfl,l4,eo,?_⟩
 refine ⟨_,rfl,row,_,rfl,R4,(show (0:Int) < 9 by decide),(by decide+kernel),fun kd H5 k0 k1 f5 R5=>?_⟩
 have tk5:=f5.tupsR R4
 have ea5:=tk5 _ _ ea4
 have ro5:=ro.keep tk5
 have G5':=G4.trans f5
 have new5:∀(ts:List Th) (vs:List V) (p':Addr),isN (.tup ts)=false→G5 (.tup ts)→RepL H5 ts vs→H5 p'=none→Q (.ref p') (upd H5 p' (.tup vs)):=fun ts vs p' h g r hp=>q _ _ _ h g (r.new hp) (G5'.trans (Frm.new hp)) (R5.new hp)
 refine ⟨_,rfl,rfl,_,rfl,?_⟩
 rw [zan]
 by_cases c0:kd=0
 ·refine ifT (decide_eq_true c0) ⟨_,rfl,_,rfl,p,_,rfl,SqT.of ea5,?_,fun p' hp'=>?_⟩
  ·rintro ⟨_,z⟩
   exact absurd (show HT.sIx 5 5 (some 4)=5 from z) (by decide)
  ·exact new5 [.int k,.str "low",.int 0,.int 0] _ p' rfl (zaD (fun t ht=>sm_5 sk sw s0 s0 s0 t (by simp only [List.mem_cons,List.not_mem_nil,or_false] at ht ⊢;rcases ht with h | h | h | h <;> simp [h])) (by simp)) (.cons (.int _) (.cons (.str _) (.cons (.int _) (.cons (.int _) .nil)))) hp'
 refine ifF (decide_eq_false c0) ?_
 refine ⟨_,rfl,rfl,_,rfl,?_⟩
 rw [zan]
 by_cases c1:kd=1
 ·refine ifT (decide_eq_true c1) ⟨_,rfl,szl (show 1≤1000 by decide),fun p6 hp6=>?_⟩
  have ea6:upd H5 p6 (.tup [.int 1]) p=some (.tup [.int k,.str "low",.int 0,.int 0,.int 1]):=by rw [zj (zh ea5 hp6)];exact ea5
  refine ⟨p,p6,_,_,rfl,rfl,ea6,ze,szl (show 6≤1000 by decide),fun r6 H6 s6 e6=>?_⟩
  refine q (.tup ([.int k,.str "low",.int 0,.int 0,.int 1]++ [.int 1])) _ H6 rfl (zaD (fun t ht=>?_) (by simp)) (za7 e6 (.cons (.int _) (.cons (.str _) (.cons (.int _) (.cons (.int _) (.cons (.int _) (.cons (.int _) .nil))))))) ((G5'.trans (Frm.new hp6)).trans (Frm.of s6)) ((R5.new hp6).keep s6)
  rcases List.mem_append.mp ht with h | h
  ·exact sm_5 sk sw s0 s0 s1 t h
  ·rw [List.mem_singleton.mp h];exact s1
 refine ifF (decide_eq_false c1) ?_
 refine ⟨_,rfl,rfl,_,rfl,?_⟩
 rw [zan]
 by_cases c2:kd=2
 ·refine ifT (decide_eq_true c2) ⟨_,rfl,_,rfl,_,rfl,_,rfl,szl (show 5≤1000 by decide),fun p' hp'=>?_⟩
  exact new5 [.non,.str "low",.int 0,.int 0,.int 1] _ p' rfl (zaD (sm_5 sm_n sw s0 s0 s1) (by simp)) (.cons .non (.cons (.str _) (.cons (.int _) (.cons (.int _) (.cons (.int _) .nil))))) hp'
 refine ifF (decide_eq_false c2) ?_
 refine ⟨_,rfl,rfl,_,rfl,?_⟩
 rw [zan]
 by_cases c3:kd=3
 ·refine ifT (decide_eq_true c3) ⟨_,rfl,_,rfl,_,rfl,_,rfl,szl (show 5≤1000 by decide),fun p' hp'=>?_⟩
  exact new5 [.int k,.non,.int 0,.int 0,.int 1] _ p' rfl (zaD (sm_5 sk sm_n s0 s0 s1) (by simp)) (.cons (.int _) (.cons .non (.cons (.int _) (.cons (.int _) (.cons (.int _) .nil))))) hp'
 refine ifF (decide_eq_false c3) ?_
 refine ⟨_,rfl,rfl,_,rfl,?_⟩
 rw [zan]
 by_cases c4:kd=4
 ·refine ifT (decide_eq_true c4) ⟨_,rfl,_,rfl,_,rfl,_,rfl,_,rfl,szl (show 5≤1000 by decide),fun p' hp'=>?_⟩
  refine new5 [.int k,.str "low",od,.int 0,.int 1] _ p' ?_ (zaD (sm_5 sk sw oo.s s0 s1) (by simp)) (.cons (.int _) (.cons (.str _) (.cons ro5 (.cons (.int _) (.cons (.int _) .nil))))) hp'
  rw [zio,oo.r];rfl
 refine ifF (decide_eq_false c4) ?_
 refine ⟨_,rfl,rfl,_,rfl,?_⟩
 rw [zan]
 by_cases c5:kd=5
 ·refine ifT (decide_eq_true c5) ⟨_,rfl,_,rfl,_,rfl,_,rfl,_,rfl,szl (show 5≤1000 by decide),fun p' hp'=>?_⟩
  refine new5 [.int k,.str "low",.int 0,od,.int 1] _ p' ?_ (zaD (sm_5 sk sw s0 oo.s s1) (by simp)) (.cons (.int _) (.cons (.str _) (.cons (.int _) (.cons ro5 (.cons (.int _) .nil))))) hp'
  rw [zio,oo.r];rfl
 refine ifF (decide_eq_false c5) ?_
 refine ⟨_,rfl,rfl,_,rfl,?_⟩
 rw [zan]
 by_cases c6:kd=6
 ·refine ifT (decide_eq_true c6) ⟨_,rfl,_,rfl,_,rfl,_,rfl,_,rfl,?_⟩
  refine ⟨_,_,rfl,rfl,⟨by decide,by decide,by decide⟩,szl (show 1≤1000 by decide),fun p6 hp6=>?_⟩
  have R6:=R5.new (o:=.tup [.int 1]) hp6
  have F6:Frm [row] H5 (upd H5 p6 (.tup [.int 1])):=Frm.new hp6
  have e6:upd H5 p6 (.tup [.int 1]) p6=some (.tup [.int 1]):=ze
  generalize upd H5 p6 (.tup [.int 1])=H6 at R6 F6 e6
  refine ⟨szl (show 7≤1000 by decide),fun p7 hp7=>?_⟩
  have R7:=R6.new (o:=.lst [.int 0,.int 301,.int (-1),.int (10 ^ (9:Int).toNat),.non,.str "1",.ref p6]) hp7
  have F7:Frm [row] H6 (upd H6 p7 (.lst [.int 0,.int 301,.int (-1),.int (10 ^ (9:Int).toNat),.non,.str "1",.ref p6])):=Frm.new hp7
  have e7:upd H6 p7 (.lst [.int 0,.int 301,.int (-1),.int (10 ^ (9:Int).toNat),.non,.str "1",.ref p6]) p7=some (.lst [.int 0,.int 301,.int (-1),.int (10 ^ (9:Int).toNat),.non,.str "1",.ref p6]):=ze
  have n7:=R6.ne hp7
  have e67:=(F7.tupsR R6) _ _ e6
  generalize upd H6 p7 (.lst [.int 0,.int 301,.int (-1),.int (10 ^ (9:Int).toNat),.non,.str "1",.ref p6])=H7 at R7 F7 e7 e67
  refine ⟨_,rfl,row,_,rfl,R7,(show (0:Int) < 7 by decide),(by decide+kernel),fun j' H8 j0' j1' f8 R8=>?_⟩
  have l8:SqL K H8 p7 _:=SqL.of (f8 _ _ (not1 n7) e7)
  have e68:=(f8.tupsR R7) _ _ e67
  obtain ⟨od',vo',eo',ro',oo'⟩:∃(od:Th) (vo:V),atI [.int 0,.int 301,.int (-1),.int (10 ^ (9:Int).toNat),.non,.str "1",.ref p6] j'=some vo∧Rep H8 od vo∧OddC od:=by
   rcases (show j'=0∨j'=1∨j'=2∨j'=3∨j'=4∨j'=5∨j'=6 by omega) with rfl | rfl | rfl | rfl | rfl | rfl | rfl
   ·exact ⟨.int 0,_,rfl,.int _,s0,rfl⟩
   ·exact ⟨.int 301,_,rfl,.int _,sm_i (by decide) (by decide),rfl⟩
   ·exact ⟨.int (-1),_,rfl,.int _,sm_i (by decide) (by decide),rfl⟩
   ·exact ⟨.int (10 ^ (9:Int).toNat),_,rfl,.int _,sm_i (by decide) (by decide),rfl⟩
   ·exact ⟨.non,_,rfl,.non,sm_n,rfl⟩
   ·exact ⟨.str "1",_,rfl,.str _,sm_s (by constructor <;> decide+kernel),rfl⟩
   ·exact ⟨.tup [.int 1],_,rfl,za7 e68 (.cons (.int 1) .nil),sm_1,rfl⟩
  refine ⟨p7,_,_,_,rfl,rfl,l8,eo',szl (show 5≤1000 by decide),fun p' hp'=>?_⟩
  refine q (.tup [.int k,.str "low",.int 0,.int 0,od']) _ _ ?_ (zaD (sm_5 sk sw s0 s0 oo'.s) (by simp)) ((RepL.cons (.int _) (.cons (.str _) (.cons (.int _) (.cons (.int _) (.cons ro' .nil))))).new hp') (((((G5'.trans F6).trans F7).trans f8)).trans (Frm.new hp')) (R8.new hp')
  rw [zio,oo'.c];rfl
 refine ifF (decide_eq_false c6) ?_
 refine ⟨szl (show 0≤1000 by decide),fun p6 hp6=>?_⟩
 have R6:=R5.new (o:=.tup []) hp6
 have F6:Frm [row] H5 (upd H5 p6 (.tup [])):=Frm.new hp6
 have e6:upd H5 p6 (.tup []) p6=some (.tup []):=ze
 generalize upd H5 p6 (.tup [])=H6 at R6 F6 e6
 refine ⟨szl (show 2≤1000 by decide),fun p7 hp7=>?_⟩
 have R7:=R6.new (o:=.tup [.str "rank",.int 7]) hp7
 have F7:Frm [row] H6 (upd H6 p7 (.tup [.str "rank",.int 7])):=Frm.new hp7
 have e7:upd H6 p7 (.tup [.str "rank",.int 7]) p7=some (.tup [.str "rank",.int 7]):=ze
 have e67:=(F7.tupsR R6) _ _ e6
 generalize upd H6 p7 (.tup [.str "rank",.int 7])=H7 at R7 F7 e7 e67
 refine ⟨szl (show 5≤1000 by decide),fun p8 hp8=>?_⟩
 have R8:=R7.new (o:=.lst [.non,.int 5,.str "text",.ref p6,.ref p7]) hp8
 have F8:Frm [row] H7 (upd H7 p8 (.lst [.non,.int 5,.str "text",.ref p6,.ref p7])):=Frm.new hp8
 have e8:upd H7 p8 (.lst [.non,.int 5,.str "text",.ref p6,.ref p7]) p8=some (.lst [.non,.int 5,.str "text",.ref p6,.ref p7]):=ze
 have n8:=R7.ne hp8
 have e68:=(F8.tupsR R7) _ _ e67
 have e78:=(F8.tupsR R7) _ _ e7
 generalize upd H7 p8 (.lst [.non,.int 5,.str "text",.ref p6,.ref p7])=H8 at R8 F8 e8 e68 e78
 refine ⟨_,rfl,row,_,rfl,R8,(show (0:Int) < 5 by decide),(by decide+kernel),fun j' H9 j0' j1' f9 R9=>?_⟩
 have l9:SqL K H9 p8 _:=SqL.of (f9 _ _ (not1 n8) e8)
 have e69:=(f9.tupsR R8) _ _ e68
 have e79:=(f9.tupsR R8) _ _ e78
 have G9:=(((G5'.trans F6).trans F7).trans F8).trans f9
 rcases (show j'=0∨j'=1∨j'=2∨j'=3∨j'=4 by omega) with rfl | rfl | rfl | rfl | rfl
 ·exact ⟨p8,_,_,_,rfl,rfl,l9,rfl,q .non _ H9 rfl sm_n.g .non G9 R9⟩
 ·exact ⟨p8,_,_,_,rfl,rfl,l9,rfl,q (.int 5) _ H9 rfl (sm_i (by decide) (by decide)).g (.int _) G9 R9⟩
 ·exact ⟨p8,_,_,_,rfl,rfl,l9,rfl,q (.str "text") _ H9 rfl (sm_s (by constructor <;> decide+kernel)).g (.str _) G9 R9⟩
 ·exact ⟨p8,_,_,_,rfl,rfl,l9,rfl,q (.tup []) _ H9 rfl (zaD (fun t h=>by cases h) (by simp)) (za7 e69 .nil) G9 R9⟩
 ·exact ⟨p8,_,_,_,rfl,rfl,l9,rfl,q (.tup [.str "rank",.int 7]) _ H9 rfl (zaD (fun t h=>by simp only [List.mem_cons,List.not_mem_nil,or_false] at h;rcases h with rfl | rfl;exact sm_s (by constructor <;> decide+kernel);exact sm_i (by decide) (by decide)) (by simp)) (za7 e79 (.cons (.str _) (.cons (.int _) .nil))) G9 R9⟩
end
end Pv
namespace Pv
open PySem L2
inductive TV (h:Heap):Th→Value→Prop
 | non:TV h .non .none
 | int (i:Int) (t:Tok):TV h (.int i) (.int i t)
 | str (x:Str) (t:Tok):TV h (.str x) (.str x t)
 | tup {a:Addr} {o:Obj} {items:Array Value} {n:Nat} {ts:List Th} (ho:h.get? a=some o) (hc:o.cls=.type "tuple") (hd:o.data=.seq items n) (l:items.size=ts.length)
   (k:∀(i:Nat) (u:Value) (t:Th),items[i]? =some u→ts[i]? =some t→TV h t u):TV h (.tup ts) (.ref a)
theorem TV.of {X:Cx}{pins:List (Addr ×Obj)}{σ:L2.St}{H:Hp}{s:Shared}(I:L2.Inv X pins σ H s){t:Th}{v:V}(r:Rep H t v):∀{u:Value},RelV v u→TV s.heap t u:=by
 induction r with
 | non=>intro u ru;cases (show u=Value.none from ru);exact .non
 | int i=>intro u ru;obtain ⟨k,rfl⟩:=ru;exact .int i k
 | str x=>intro u ru;obtain ⟨k,rfl⟩:=ru;exact .str x k
 | @tup a xs ts e l h ih=>
  intro u ru
  cases (show u=Value.ref a from ru)
  obtain ⟨_,its,rv,o,h1,h2,n,h3⟩:=(show zY X.prog X.w H s.heap a (.tup xs) from I.hok a _ e)
  have hl:=rv.length
  refine .tup h1 h2 h3 (by rw [List.size_toArray];omega) fun i u t eu et=>?_
  have hi:i < xs.length:=by have:=(List.getElem?_eq_some_iff.mp et).1;omega
  have ex:xs[i]? =some xs[i]:=List.getElem?_eq_getElem hi
  obtain ⟨w,ew,rw'⟩:=rv.get ex
  have:u=w:=by
   have e2:its[i]? =some u:=by simpa using eu
   rw [ew] at e2;exact (Option.some.inj e2).symm
  subst this
  exact ih i _ _ ex et rw'
theorem TV.inj {h:Heap}{t:Th}{u:Value}(r:TV h t u):∀{t':Th},TV h t' u→t=t':=by
 induction r with
 | non=>intro t' q;cases q;rfl
 | int i k=>intro t' q;cases q;rfl
 | str x k=>intro t' q;cases q;rfl
 | @tup a o items n ts ho hc hd l k ih=>
  intro t' q
  cases q with
  | @tup _ o' items' n' ts' ho' hc' hd' l' k'=>
   obtain rfl:o=o':=Option.some.inj (ho.symm.trans ho')
   rw [hd] at hd'
   injection hd' with e1 _
   subst e1
   congr 1
   apply List.ext_getElem?
   intro i
   by_cases hi:i < ts.length
   ·have e1:ts[i]? =some ts[i]:=List.getElem?_eq_getElem hi
    have e2:ts'[i]? =some (ts'[i]'(by omega)):=List.getElem?_eq_getElem (by omega)
    have e3:items[i]? =some (items[i]'(by omega)):=Array.getElem?_eq_getElem (by omega)
    rw [e1,e2,ih i _ _ e3 e1 (k' i _ _ e3 e2)]
   ·rw [List.getElem?_eq_none (by omega),List.getElem?_eq_none (by omega)]
def hsh (w:World):Th→Int
 | .non=>0xFCA86420
 | .int i=>hashInt i
 | .str x=>hashStr w x
 | .tup ts=>reduceHash (Builtin.Tuple.tupleHashOf (hshL w ts))
where hshL (w:World):List Th→List Int
 | []=>[]
 | t::ts=>hsh w t::hshL w ts
section
variable {prog:Program}{w:World}{A:Around}{E:Value→Shared→Prop}{s:Shared}
end
end Pv
set_option maxHeartbeats 400000
namespace Pv
open PySem L2 PySem.Spec PyProof.Rows
open Classical in
noncomputable def isT (h:Heap)(t:Th)(u:Value):Bool:=decide (TV h t u)
section
variable {X:Cx}
end
end Pv
namespace L2
open PySem PySem.Spec PyProof.Rows
section
variable {X:Cx}{pos:Pos}
def zmB (K:PySem.W.Frag)(n:Nat)(t:TGs):TG:=fun v σ H Q=>∃a xs,v=.ref a∧SqL K H a xs∧xs.length=n∧t xs σ H Q
theorem zko {es:List Expr}{k:Nat}{t:TGs}{n:Nat}(hc:X.calm=true)(h:PGs X es t)
  (hn:(assignEach es X.env).length=n:=by rfl) (hst:(assignEach es X.env).findIdx? (·.1)=none:=by rfl):PG X (.Tuple es k pos) (zmB X.K n t):=by
 intro pins s σ H v u Q I r hw
 obtain ⟨a,xs,e1,hq,hl,hw⟩:=hw
 subst e1
 cases r
 obtain ⟨its,rv,pl,hz⟩:=I.list hq
 rw [arm_assign_Tuple]
 refine wpAny_bind (wpAny_standAt ?_)
 unfold unpack
 have e2:(assignEach es X.env).length=its.toArray.size:=by simp [hn,←hl,rv.length]
 rw [e2,hst]
 refine wpAny_bind (wpAny_holding (PySem.W.kun_itemsOf (I.ok.hd hc) pl.isList fun h' hx=>?_))
 have I1:Inv X pins σ H {s with heap:=h'}:=I.kept (t':=s.toks) fun b o e=>hx b o (Nat.ne_of_lt (Heap.lt_size e)) e
 exact h pins _ σ H xs _ Q I1 (by simpa using rv) hw
end
end L2
namespace Pv
open PySem L2 PySem.Spec PyProof.Rows
section
variable {X:Cx}
end
end Pv
set_option maxHeartbeats 4000000
namespace Px
open PySem PySem.W PySem.Builtin
open PySem.AutoSeq1 (wpAny_loadPart')
def zmK (s:Shared)(a c:Int)(n:Nat):Result→Shared→Prop:=fun q s'=>∃h' tk acc c',q=.ok (.ret (.ref s.heap.objs.size))∧s'={s with heap:=h',toks:=tk}∧(∀b o,s.heap.get? b=some o→h'.get? b=some o)∧h'.get? s.heap.objs.size=some {cls:=.type "list",dict:=none,data:=.seq acc c',slots:= #[]}∧ItemsOf (fun i v=>∃t,v=.int (a+i * c) t) acc n
section
variable {prog:Program}{w:World}{A:Around}{E:Value→Shared→Prop}{s:Shared}
end
end Px
namespace L2
open PySem PySem.Spec PyProof.Rows Px
section
variable {X:Cx}{e:Expr}{ta:TA}{p1 p2 q1 q2:Pos}
end
end L2
namespace L2
open PySem PySem.Spec PyProof.Rows
section
variable {X:Cx}
open PySem.SeqAt in
theorem zmf {pins:List (Addr ×Obj)}{σ:St}{H:Hp}{s:Shared}(I:Inv X pins σ H s){a b:Addr}{xs:List V}{A:Around}(e:SqL X.K H a xs)(e':SqL X.K H b xs)(h:∀x∈xs,zds x=true∧eqV x x=true)(hu:A.units+60 < cLine):
  RcAt A s (.ref a) (.ref b) true∧RcNeAt A s (.ref a) (.ref b) false:=by
 obtain ⟨its,r1,T1,_⟩:=I.list e
 obtain ⟨jts,r2,T2,_⟩:=I.list e'
 have n1:=r1.length
 have n2:=r2.length
 have key:∀j (h1:j < its.toArray.size) (h2:j < jts.toArray.size),EqAt A.in1 s its.toArray[j] jts.toArray[j] true:=fun j h1 h2=>by
  have h1':j < its.length:=by simpa using h1
  have h2':j < jts.length:=by simpa using h2
  have hx:xs[j]? =some xs[j]:=List.getElem?_eq_getElem (show j < xs.length by omega)
  obtain ⟨vx,ex,rx⟩:=r1.get hx
  obtain ⟨vy,ey,ry⟩:=r2.get hx
  have z1:its.toArray[j]=vx:=by
   rw [List.getElem?_eq_getElem h1'] at ex
   simpa using Option.some.inj ex
  have z2:jts.toArray[j]=vy:=by
   rw [List.getElem?_eq_getElem h2'] at ey
   simpa using Option.some.inj ey
  rw [z1,z2]
  obtain ⟨f1,f2⟩:=h xs[j] (List.getElem_mem (show j < xs.length by omega))
  have:=zlS (A:=A.in1) (s:=s) rx ry f1 f1
  rw [f2] at this
  exact this
 have hsz:its.toArray.size=jts.toArray.size:=by rw [List.size_toArray,List.size_toArray];omega
 have R:=RcAt.lists (e:=fun _=>true) T1.isList T2.isList hsz (show A.units < cLine by omega) key
 have R':=RcNeAt.lists (e:=fun _=>true) T1.isList T2.isList hsz (show A.units < cLine by omega) key
 have e3:(List.range its.toArray.size).all (fun _=>true)=true:=List.all_eq_true.mpr fun _ _=>rfl
 rw [e3] at R R'
 exact ⟨R,R'⟩
theorem zfg {k:Nat}(hr:Room k X.A):OpR X (compareOp .Eq) (fun x y H Q=>∃a b xs,x=.ref a∧y=.ref b∧SqL X.K H a xs∧SqL X.K H b xs∧(∀x∈xs,zds x=true∧eqV x x=true)∧Q (.bl true) H):=by
 intro pins s σ H x y v w Q I rx ry h
 obtain ⟨a,b,xs,rfl,rfl,e1,e2,hf,q⟩:=h
 cases (show v=Value.ref a from rx)
 cases (show w=Value.ref b from ry)
 have hu:=hr.units
 exact (zmf I e1 e2 hf (by omega)).1 _ _ _ _ ⟨.bl _,H,I,rfl,q⟩
end
end L2
namespace Pv
open PySem L2
abbrev zb0:Stmt:=top 81
theorem zG:zm ["row","way","keys","top","key","is_left","beneath","bad","sides","node","ask","some"] ["row","way"] (zg zb0):=⟨rfl,rfl,rfl,by decide+kernel,rfl,by decide+kernel,by decide+kernel⟩
def zju:Sp:=fun vs H Q _=>∃(row:Addr) (way:Int),vs=[.ref row,.int way]∧RowV H row∧0≤way∧way < 4∧∀H',Frm [row] H H'→RowV H' row→Q (.bl true) H'
structure Keys (t k:Int):Prop where
 t0:0≤t
 t1:t≤150
 k0:0≤k
 k1:k≤150
 ne:t+2≤k∨k+2≤t
theorem zk1:∀x∈ [V.bl true,V.bl true,V.bl false],zds x=true∧eqV x x=true:=by
 intro x hx
 simp only [List.mem_cons,List.not_mem_nil,or_false] at hx
 rcases hx with rfl | rfl | rfl <;> exact ⟨rfl,rfl⟩
def PB (way k:Int)(tb:Th):Prop:=(way≠3∧BadB 2 tb)∨(way=3∧tb=lowT k)
theorem zkU {k:Int}(h0:0≤k)(h1:k≤200):G5 (lowT k):=zaD (sm_5 (sm_i (by omega) (by omega)) (sm_s (by constructor <;> decide+kernel)) (sm_i (by decide) (by decide)) (sm_i (by decide) (by decide)) (sm_i (by decide) (by decide))) (by simp)
theorem zmu {t:Th}(h:Held (zZ [t]) [t]):zC (zZ [t]) (zk t)=some t:=h t (by simp)
def lO (t k:Int)(tb:Th):Int:=if k < t then zk tb else 0
def rO (t k:Int)(tb:Th):Int:=if k < t then 0 else zk tb
theorem zep (t k:Int)(tb:Th):0≤lO t k tb∧lO t k tb≤10 ^ 30∧0≤rO t k tb∧rO t k tb≤10 ^ 30:=by
 have:=zW tb
 unfold lO rO
 split <;> omega
def midT (t:Int)(l r c:Int):Th:=zau (.int t) (.str "mid") l r c
theorem zgz {t l r c:Int}(l0:0≤l)(r0:0≤r)(c0:1≤c)(c1:c≤300):NodeOk (.int t) (.str "mid") l r c:=⟨(fun z=>by cases z),(fun z=>by cases z),l0,r0,c0,c1⟩
theorem zi3 {t l r c:Int}(t0:0≤t)(t1:t≤200)(l0:0≤l)(l1:l≤10 ^ 30)(r0:0≤r)(r1:r≤10 ^ 30)(c0:1≤c)(c1:c≤300):G5 (midT t l r c):=zaD (sm_5 (sm_i (by omega) (by omega)) (sm_s (by constructor <;> decide+kernel)) (sm_i (by omega) l1) (sm_i (by omega) r1) (sm_i (by omega) (by omega))) (by simp)
theorem zkb {t k:Int}{tb:Th}{qn:Qn}{cs:List (Int ×Th)}(ks:Keys t k)(h1:zC cs (zk tb)=some tb)(h2:zC cs (zk (midT t (lO t k tb) (rO t k tb) 2))=some (midT t (lO t k tb) (rO t k tb) 2))(bb:BadB 2 tb)(ao:zeK k (if k < t then 0 else 1) qn):Ans cs (zk (midT t (lO t k tb) (rO t k tb) 2)) qn (.error true):=by
 obtain ⟨l0,l1,r0,r1⟩:=zep t k tb
 obtain ⟨t0,t1,k0,k1,ne⟩:=ks
 have sp:=zW (midT t (lO t k tb) (rO t k tb) 2)
 have sb:=zW tb
 have e:ben cs (zk (midT t (lO t k tb) (rO t k tb) 2)) 301=.ok ⟨.int t,.str "mid",lO t k tb,rO t k tb,2⟩:=zbV (nd:=⟨.int t,.str "mid",lO t k tb,rO t k tb,2⟩) h2 (show NodeOk (.int t) (.str "mid") (lO t k tb) (rO t k tb) 2 from zgz l0 r0 (by decide) (by decide)) (by show (2:Int) < 301;decide)
 have eb:ben cs (zk tb) 2=.error true:=zdH h1 bb
 by_cases hk:k < t
 ·have el:lO t k tb=zk tb:=if_pos hk
  rw [if_pos hk] at ao
  exact zjn (by omega) e rfl (by show lO t k tb≠0;omega) (by show ben cs (lO t k tb) 2=_;rw [el];exact eb) k0 (by omega) (by omega) (by omega) ao
 ·have er:rO t k tb=zk tb:=if_neg hk
  rw [if_neg hk] at ao
  exact zhx (by omega) e rfl (by show lO t k tb=0;exact if_neg hk) (by show (1:Int) < 2;decide) (by show rO t k tb≠0;omega) (by show ben cs (rO t k tb) 2=_;rw [er];exact eb) t0 (by omega) (by omega) ao
theorem zjJ {t k c:Int}{lo hi:Th}{cs:List (Int ×Th)}(ks:Keys t k)(h1:zC cs (zk (lowT k))=some (lowT k))(c0:3≤c)(c1:c≤300)(h2:zC cs (zk (midT t (lO t k (lowT k)) (rO t k (lowT k)) c))=some (midT t (lO t k (lowT k)) (rO t k (lowT k)) c))(gl:zad lo (.int t)=true)(gr:zav hi (.int t)=true)(d:dep lo≤3)(em:zai lo hi=false):Ans cs (zk (midT t (lO t k (lowT k)) (rO t k (lowT k)) c)) (.str lo hi) (.error true):=by
 obtain ⟨l0,l1,r0,r1⟩:=zep t k (lowT k)
 obtain ⟨t0,t1,k0,k1,ne⟩:=ks
 have sp:=zW (midT t (lO t k (lowT k)) (rO t k (lowT k)) c)
 have sb:=zW (lowT k)
 have e:ben cs (zk (midT t (lO t k (lowT k)) (rO t k (lowT k)) c)) 301=.ok ⟨.int t,.str "mid",lO t k (lowT k),rO t k (lowT k),c⟩:=zbV (nd:=⟨.int t,.str "mid",lO t k (lowT k),rO t k (lowT k),c⟩) h2 (show NodeOk (.int t) (.str "mid") (lO t k (lowT k)) (rO t k (lowT k)) c from zgz l0 r0 (by omega) c1) (by show c < 301;omega)
 have eb:ben cs (zk (lowT k)) c=.ok ⟨.int k,.str "low",0,0,1⟩:=zbV (nd:=⟨.int k,.str "low",0,0,1⟩) h1 (show NodeOk (.int k) (.str "low") 0 0 1 from ⟨(fun z=>by cases z),(fun z=>by cases z),by decide,by decide,by decide,by decide⟩) (by show (1:Int) < c;omega)
 have sz:zV cs (zk (lowT k)) c=.ok 1:=zcG (by omega) eb
 by_cases hk:k < t
 ·exact zhe (x:=1) (y:=0) (by omega) e (zak (by omega) (by omega)) gl gr (by show zV cs (lO t k (lowT k)) c=_;rw [show lO t k (lowT k)=zk (lowT k) from if_pos hk];exact sz) (by show zV cs (rO t k (lowT k)) c=_;rw [show rO t k (lowT k)=0 from if_pos hk];exact zcD) (by show (1:Int)+0+1≠c;omega) d em
 ·exact zhe (x:=0) (y:=1) (by omega) e (zak (by omega) (by omega)) gl gr (by show zV cs (lO t k (lowT k)) c=_;rw [show lO t k (lowT k)=0 from if_neg hk];exact zcD) (by show zV cs (rO t k (lowT k)) c=_;rw [show rO t k (lowT k)=zk (lowT k) from if_neg hk];exact sz) (by show (0:Int)+1+1≠c;omega) d em
seal PE PS PSs PT PA PI PTs PW PG PGs PO
section
variable {P:Program}{w:World}{K:PySem.W.Frag}{mg:Str→Option Value}{base:Heap}{cl:Kd→Addr}
theorem zjV (D:Dfn K mg "_law_is_bad" zb0 ["row","way"]) (F_law_take:Fn P w K mg base "_law_take" 1 ["row","many"] zcF) (F_above:Fn P w K mg base "above" 21 ["key","other"] zeV) (F_seal:Fn P w K mg base "seal" 13 ["thing"] zcf) (F_law_spoilt:Fn P w K mg base "_law_spoilt" 2 ["node","row"] zkS) (F_law_ask:Fn P w K mg base "_law_ask" 3 ["row","key","number"] (zkR cl)) (F_law_kinds:Fn P w K mg base "_law_kinds" 27 ["root","ask","paper"] (zjI cl))
  (K_Stretch:Mkr P w K mg base "Stretch" (cl .st) 1 ["self","low","high"] (spI2 (cl .st) "low" "high")) (m_int:mg "int" =none):Fn P w K mg base "_law_is_bad" 28 ["row","way"] zju:=by
 refine D.ok (k:=27) zG (fun vs H Q E h=>?_) (fun f cdv A outer s H vs Q E hr h=>?_)
 ·obtain ⟨row,way,rfl,_⟩:=h;rfl
 obtain ⟨row,way,rfl,R0,w0,w1,q⟩:=h
 refine ⟨_,(zc (zq (i:=2) zG.nd rfl (Or.inl rfl) (zL (za (zw F_law_take hr (by omega) (by rfl) (za (pv 0) (za zd zb))) zb)))
 (zc (zao (zdp PySem.F.plainAttrs_list PySem.F.slot_list_append PySem.F.type_list_append zaP (pv 2) (za (zA zT (zA zT (zz zI (pv 2) zd (fun _ _=>rfl)) zd) (zw F_law_take hr (by omega) (by rfl) (za (pv 0) (za zd zb)))) zb)))
 (zc (zD (zQ (zw F_above hr (by omega) (by rfl) (za (zz zI (pv 2) zd (fun _ _=>rfl)) (za (zz zI (pv 2) zd (fun _ _=>rfl)) zb))))
 (zf (zao (zgA PySem.F.plainAttrs_list PySem.F.slot_list_reverse PySem.F.type_list_reverse zeb (pv 2))))
 zr)
 (zc (zfc (pv 2) (zko rfl (zaR (zX (i:=3) zG.nd rfl (Or.inl rfl)) (zaR (zX (i:=4) zG.nd rfl (Or.inl rfl)) zeS))))
 (zc (zq (i:=5) zG.nd rfl (Or.inl rfl) (zS zek (pv 4) (pv 3) (zt _)))
 (zc (zq (i:=6) zG.nd rfl (Or.inl rfl) (zP (za (pv 4) (za z7 (za zd (za zd (za zd zb)))))))
 (zc (zD (zx zaO (pv 1) zd (zt _))
 (zc (zq (i:=7) zG.nd rfl (Or.inl rfl) (zw F_law_spoilt hr (by omega) (by rfl) (za (pv 6) (za (pv 0) zb))))
 (zf (zl (zS (zfg hr) (zw F_law_kinds hr (by omega) (by rfl) (za (zw F_seal hr (by omega) (by rfl) (za (pv 7) zb)) (za (zw F_law_ask hr (by omega) (by rfl) (za (pv 0) (za (pv 4) (za zd zb)))) (za (zL (za (pv 7) zb)) zb)))) (zL (za zal (za zal (za zal zb)))) (zt _)))))
 zr)
 (zc (zD (zx zaO (pv 1) zd (zt _))
 (zf (zq (i:=6) zG.nd rfl (Or.inl rfl) (zw F_law_spoilt hr (by omega) (by rfl) (za (pv 6) (za (pv 0) zb)))))
 zr)
 (zc (zD (zx zaO (pv 1) zd (zt _))
 (zf (zq (i:=6) zG.nd rfl (Or.inl rfl) (zA zdg (zbP zf7 (pv 6) zc4 (zbY zd)) (zP (za (zA zT zd (zw F_law_take hr (by omega) (by rfl) (za (pv 0) (za zd zb)))) zb)))))
 zr)
 (zc (zq (i:=8) zG.nd rfl (Or.inl rfl) (zz zI (zL (za (zP (za zd (za (zw F_seal hr (by omega) (by rfl) (za (pv 6) zb)) zb))) (za (zP (za (zw F_seal hr (by omega) (by rfl) (za (pv 6) zb)) (za zd zb))) zb))) (zde zda (by rfl) m_int (by rfl) (za (pv 5) zb)) (fun _ _=>rfl)))
 (zc (zq (i:=9) zG.nd rfl (Or.inl rfl) (zP (za (pv 3) (za z7 (za (zz zH (pv 8) zd (fun _ _=>rfl)) (za (zz zH (pv 8) zd (fun _ _=>rfl)) (za zd zb)))))))
 (zc (zq (i:=10) zG.nd rfl (Or.inl rfl) (zw F_law_ask hr (by omega) (by rfl) (za (pv 0) (za (pv 4) (za (zde zda (by rfl) m_int (by rfl) (za (ze2 (pv 5)) zb)) zb)))))
 (zc (zD (zx zaO (pv 1) zd (zt _))
 (zc (zq (i:=9) zG.nd rfl (Or.inl rfl) (zA zdg (zbP zf7 (pv 9) zc4 (zbY zd)) (zP (za (zA zT zd (zw F_law_take hr (by omega) (by rfl) (za (pv 0) (za zd zb)))) zb))))
 (zc (zq (i:=11) zG.nd rfl (Or.inl rfl) (zL (za (zah K_Stretch hr (by omega) (by rfl) (za zJ (za zJ zb))) (za (zah K_Stretch hr (by omega) (by rfl) (za zJ (za (zA zT (pv 3) zd) zb))) (za (zah K_Stretch hr (by omega) (by rfl) (za (zA zbK (pv 3) zd) (za zJ zb))) (za (zah K_Stretch hr (by omega) (by rfl) (za (zA zbK (pv 3) zd) (za (zA zT (pv 3) zd) zb))) zb))))))
 (zf (zq (i:=10) zG.nd rfl (Or.inl rfl) (zz zI (pv 11) (zw F_law_take hr (by omega) (by rfl) (za (pv 0) (za zd zb))) (fun _ _=>rfl))))))
 zr)
 (zf (zl (zS (zfg hr) (zw F_law_kinds hr (by omega) (by rfl) (za (zw F_seal hr (by omega) (by rfl) (za (pv 9) zb)) (za (pv 10) (za (zL (za (pv 6) (za (pv 9) zb))) zb)))) (zL (za zal (za zal (za zal zb)))) (zt _))))))))))))))))),?_⟩
 refine ⟨_,rfl,row,_,rfl,R0,(show (0:Int) < 50 by decide),(by decide+kernel),fun x H1 x0 x1 f1 R1=>?_⟩
 refine ⟨szl (show 1≤1000 by decide),fun pk hpk=>?_⟩
 have R2:=R1.new (o:=.lst [.int x]) hpk
 have F2:Frm [row] H1 (upd H1 pk (.lst [.int x])):=Frm.new hpk
 have ek:upd H1 pk (.lst [.int x]) pk=some (.lst [.int x]):=ze
 have nk:=R1.ne hpk
 generalize upd H1 pk (.lst [.int x])=H2 at R2 F2 ek
 refine ⟨_,rfl,.inl ⟨rfl,_,SqL.of ek⟩,_,rfl,pk,_,_,_,rfl,rfl,SqL.of ek,rfl,_,_,rfl,rfl,_,rfl,row,_,rfl,R2,(show (0:Int) < 50 by decide),(by decide+kernel),fun y H3 y0 y1 f3 R3=>⟨_,_,rfl,rfl,pk,[.int x],_,rfl,rfl,f3 _ _ (not1 nk) ek,Nat.lt_of_lt_of_le (show 1 < 1000 by decide) (szl (Nat.le_refl _)),?_⟩⟩
 have hx:x+2+y≤150:=by omega
 have hx2:x+2≤x+2+y:=by omega
 have hx0:0≤x+2+y:=by omega
 have hk0:H pk=none:=by
  cases z:H pk with
  | none=>rfl
  | some o=>
   have:=f1 _ _ (not1 nk) z
   rw [hpk] at this;cases this
 have R4:RowV (upd H3 pk (.lst ([.int x]++ [.int (x+2+y)]))) row:=by
  obtain ⟨a,m,e,g⟩:=R3
  exact ⟨a,m,by rw [zj (Ne.symm nk)];exact e,g⟩
 have F4:Frm [row] H (upd H3 pk (.lst ([.int x]++ [.int (x+2+y)]))):=fun b o n e=>by
  rw [zj (zh e hk0)]
  exact ((f1.trans F2).trans f3) b o n e
 have ek4:upd H3 pk (.lst ([.int x]++ [.int (x+2+y)])) pk=some (.lst [.int x,.int (x+2+y)]):=ze
 generalize upd H3 pk (.lst ([.int x]++ [.int (x+2+y)]))=H4 at R4 F4 ek4
 generalize x+2+y=z at hx hx2 hx0 ek4
 dsimp only
 refine zaY (fun σ H'=>∃t k,σ=[some (.ref row),some (.int way),some (.ref pk),none,none,none,none,none,none,none,none,none]∧Keys t k∧H' pk=some (.lst [.int t,.int k])∧Frm [row] H H'∧RowV H' row) (fun N kN=>?_) ?_
 ·have gx:Good (.int x):=(sm_i (i:=x) (by omega) (by omega)).g.good
  have gz:Good (.int z):=(sm_i (i:=z) (by omega) (by omega)).g.good
  refine ⟨_,rfl,pk,_,_,_,rfl,rfl,SqL.of ek4,rfl,_,rfl,pk,_,_,_,rfl,rfl,SqL.of ek4,rfl,.int z,.int x,_,_,rfl,.int _,.int _,gz,gx,fun H5 s5=>⟨_,rfl,?_⟩⟩
  have ek5:=s5 _ _ ek4
  cases zaM (.int z) (.int x) with
  | false=>exact ifF rfl (kN _ _ ⟨x,z,rfl,⟨by omega,by omega,by omega,by omega,.inl (by omega)⟩,ek5,F4.trans (Frm.of s5),R4.keep s5⟩)
  | true=>
   refine ifT rfl ⟨_,rfl,.inl ⟨rfl,_,SqL.of ek5⟩,pk,_,rfl,rfl,ek5,kN _ _ ⟨z,x,rfl,⟨by omega,by omega,by omega,by omega,.inr (by omega)⟩,ze,?_,?_⟩⟩
   ·intro b o n e
    rw [zj (zh e hk0)]
    exact s5 _ _ (F4 b o n e)
   ·obtain ⟨a,m,e,g⟩:=R4.keep s5
    exact ⟨a,m,by rw [zj (Ne.symm nk)];exact e,g⟩
 clear ek4 R4 F4 hx hx2 hx0
 rintro σ H5 ⟨t,k,rfl,ks,ek5,F5,R5⟩
 refine ⟨_,rfl,pk,_,rfl,SqL.of ek5,rfl,_,_,rfl,_,_,rfl,rfl,?_⟩
 refine ⟨_,rfl,_,rfl,_,_,rfl,rfl,?_⟩
 refine ⟨_,rfl,szl (show 5≤1000 by decide),fun pb hpb=>?_⟩
 have rb6:Rep (upd H5 pb (.tup [.int k,.str "low",.int 0,.int 0,.int 1])) (lowT k) (.ref pb):=(RepL.cons (.int k) (.cons (.str _) (.cons (.int 0) (.cons (.int 0) (.cons (.int 1) .nil))))).new hpb
 have R6:=R5.new (o:=.tup [.int k,.str "low",.int 0,.int 0,.int 1]) hpb
 have F6:Frm [row] H (upd H5 pb (.tup [.int k,.str "low",.int 0,.int 0,.int 1])):=F5.trans (Frm.new hpb)
 generalize upd H5 pb (.tup [.int k,.str "low",.int 0,.int 0,.int 1])=H6 at rb6 R6 F6
 have k0:=ks.k0
 have k1:=ks.k1
 have t0:=ks.t0
 have t1:=ks.t1
 have fin:∀(p:Addr) (H1:Hp),H1 p=some (.lst [.bl true,.bl true,.bl false])→Frm [row] H H1→RowV H1 row→∀p2,H1 p2=none→∃a b xs,V.ref p=.ref a∧V.ref p2=.ref b∧SqL K (upd H1 p2 (.lst [.bl true,.bl true,.bl false])) a xs∧SqL K (upd H1 p2 (.lst [.bl true,.bl true,.bl false])) b xs∧(∀x∈xs,zds x=true∧eqV x x=true)∧Q (.bl true) (upd H1 p2 (.lst [.bl true,.bl true,.bl false])):=fun p H1 e f r p2 hp2=>
  ⟨p,p2,_,rfl,rfl,SqL.of (by rw [zj (zh e hp2)];exact e),SqL.of ze,zk1,q _ (f.trans (Frm.new hp2)) (r.new hp2)⟩
 refine ⟨_,rfl,rfl,_,rfl,?_⟩
 rw [zan]
 by_cases c0:way=0
 ·refine ifT (decide_eq_true c0) ?_
  refine ⟨_,rfl,_,rfl,row,k,_,rfl,R6,rb6,by omega,by omega,fun tb vb H7 hn g rb f7 R7=>?_⟩
  have gd:=g.dp
  have gn:=g.nd
  refine ⟨_,rfl,tb,vb,rfl,rb,g.wf,by omega,by omega,fun H8 s8=>?_⟩
  refine ⟨_,rfl,_,rfl,row,k,0,rfl,R7.keep s8,fun qn b H9 ao f9 R9 qa=>?_⟩
  have rb9:=(rb.keep (Same.tups s8)).keep (f9.tupsR (R7.keep s8))
  refine ⟨_,rfl,szl (show 1≤1000 by decide),fun pl hpl=>?_⟩
  have s10:=zo (o:=.lst [vb]) (Same.refl H9) hpl
  have e10:upd H9 pl (.lst [vb]) pl=some (.lst [vb]):=ze
  generalize upd H9 pl (.lst [vb])=H10 at s10 e10
  refine ⟨b,pl,_,qn,[vb],[tb],rfl,qa.same s10,e10,.cons (rb9.keep (Same.tups s10)) .nil,by simp,(fun t ht=>by rw [List.mem_singleton.mp ht];exact g),fun held=>?_,fun p H11 s11 ep=>?_⟩
  ·have sp:=zW tb
   exact ziD (by omega) (zdH (zmu held) (zeZ hn)) k0 (by omega) (Int.le_refl 0) ao
  ·exact ⟨szl (show 3≤1000 by decide),fin p H11 ep ((((F6.trans f7).trans (Frm.of s8)).trans f9).trans (Frm.of fun c o z=>s11 c o (s10 c o z))) (R9.keep fun c o z=>s11 c o (s10 c o z))⟩
 refine ifF (decide_eq_false c0) ?_
 dsimp only [zjk]
 refine zaY (fun σ H'=>∃tb vb,σ=[some (.ref row),some (.int way),some (.ref pk),some (.int t),some (.int k),some (.bl (decide (k < t))),some vb,none,none,none,none,none]∧((way=1∧isN tb=false)∨(way≠1∧tb=lowT k))∧G5 tb∧Rep H' tb vb∧Frm [row] H H'∧RowV H' row) (fun N kN=>?_) ?_
 ·refine ⟨_,rfl,rfl,_,rfl,?_⟩
  rw [zan]
  by_cases c1:way=1
  ·refine ifT (decide_eq_true c1) ⟨_,rfl,_,rfl,row,k,_,rfl,R6,rb6,by omega,by omega,fun tb vb H7 hn g rb f7 R7=>?_⟩
   exact kN _ _ ⟨tb,vb,rfl,.inl ⟨c1,hn⟩,g,rb,F6.trans f7,R7⟩
  ·exact ifF (decide_eq_false c1) (kN _ _ ⟨lowT k,_,rfl,.inr ⟨c1,rfl⟩,zkU k0 (by omega),rb6,F6,R6⟩)
 clear R6 rb6 F6
 rintro σ H6 ⟨tb,vb,rfl,ht,g,rb6,F6,R6⟩
 refine zaY (fun σ H'=>∃tb vb,σ=[some (.ref row),some (.int way),some (.ref pk),some (.int t),some (.int k),some (.bl (decide (k < t))),some vb,none,none,none,none,none]∧PB way k tb∧G5 tb∧Rep H' tb vb∧Frm [row] H H'∧RowV H' row) (fun N kN=>?_) ?_
 ·refine ⟨_,rfl,rfl,_,rfl,?_⟩
  rw [zan]
  by_cases c2:way=2
  ·refine ifT (decide_eq_true c2) ?_
   rcases ht with ⟨z,_⟩ | ⟨_,rfl⟩
   ·omega
   obtain ⟨p,vk,vw,rfl,ea,rk,rw'⟩:=zK rb6
   cases rk
   cases rw'
   refine ⟨_,rfl,_,rfl,p,_,rfl,SqT.of ea,?_,fun p7 hp7=>?_⟩
   ·rintro ⟨_,z⟩
    exact absurd (show HT.sIx 5 5 (some 4)=5 from z) (by decide)
   have e7:upd H6 p7 (.tup (cutV [V.int k,.str "low",.int 0,.int 0,.int 1] none (some 4))) p7=some (.tup [.int k,.str "low",.int 0,.int 0]):=ze
   have F7:Frm [row] H _:=F6.trans (Frm.new (o:=.tup (cutV [V.int k,.str "low",.int 0,.int 0,.int 1] none (some 4))) hp7)
   have R7:=R6.new (o:=.tup (cutV [V.int k,.str "low",.int 0,.int 0,.int 1] none (some 4))) hp7
   generalize upd H6 p7 (.tup (cutV [V.int k,.str "low",.int 0,.int 0,.int 1] none (some 4)))=H7 at e7 F7 R7
   refine ⟨_,rfl,row,_,rfl,R7,(show (0:Int) < 299 by decide),(by decide+kernel),fun c H8 c0 c1 f8 R8=>⟨_,_,rfl,rfl,szl (show 1≤1000 by decide),fun p9 hp9=>?_⟩⟩
   have e8:=(f8.tupsR R7) _ _ e7
   have e9:upd H8 p9 (.tup [.int (2+c)]) p7=some (.tup [.int k,.str "low",.int 0,.int 0]):=by rw [zj (zh e8 hp9)];exact e8
   refine ⟨p7,p9,_,_,rfl,rfl,e9,ze,szl (show 5≤1000 by decide),fun r10 H10 s10 e10=>?_⟩
   refine kN _ _ ⟨zau (.int k) (.str "low") 0 0 (2+c),.ref r10,rfl,.inl ⟨by omega,fun nd e _=>?_⟩,zaD (sm_5 (sm_i (by omega) (by omega)) (sm_s (by constructor <;> decide+kernel)) (sm_i (by decide) (by decide)) (sm_i (by decide) (by decide)) (sm_i (by omega) (by omega))) (by simp),za7 e10 (.cons (.int _) (.cons (.str _) (.cons (.int _) (.cons (.int _) (.cons (.int _) .nil))))),((F7.trans f8).trans (Frm.new hp9)).trans (Frm.of s10),(R8.new hp9).keep s10⟩
   cases nd with | mk a1 a2 a3 a4 a5=>
   cases e
   show (2:Int)≤2+c
   omega
  ·refine ifF (decide_eq_false c2) (kN _ _ ⟨tb,vb,rfl,?_,g,rb6,F6,R6⟩)
   rcases ht with ⟨z,hn⟩ | ⟨z,rfl⟩
   ·exact .inl ⟨by omega,zeZ hn⟩
   ·exact .inr ⟨by omega,rfl⟩
 clear ht g rb6 F6 R6
 rintro σ H7 ⟨tb,vb,rfl,pb',g,rb7,F7,R7⟩
 have gd:=g.dp
 have gn:=g.nd
 refine zaY (fun σ H'=>∃ps,σ=[some (.ref row),some (.int way),some (.ref pk),some (.int t),some (.int k),some (.bl (decide (k < t))),some vb,none,some (.ref ps),none,none,none]∧H' ps=some (.tup [.int (if k < t then zk tb else 0),.int (if k < t then 0 else zk tb)])∧Rep H' tb vb∧Frm [row] H H'∧RowV H' row) (fun N kN=>?_) ?_
 ·refine ⟨_,rfl,tb,vb,rfl,rb7,g.wf,by omega,by omega,fun H8 s8=>⟨szl (show 2≤1000 by decide),fun pa hpa=>?_⟩⟩
  have s9:=zo (o:=.tup [.int 0,.int (zk tb)]) s8 hpa
  have ea:upd H8 pa (.tup [.int 0,.int (zk tb)]) pa=some (.tup [.int 0,.int (zk tb)]):=ze
  generalize upd H8 pa (.tup [.int 0,.int (zk tb)])=H9 at s9 ea
  refine ⟨_,rfl,tb,vb,rfl,rb7.keep (Same.tups s9),g.wf,by omega,by omega,fun H10 s10=>⟨szl (show 2≤1000 by decide),fun pc hpc=>?_⟩⟩
  have s11:=zo (o:=.tup [.int (zk tb),.int 0]) s10 hpc
  have ec:upd H10 pc (.tup [.int (zk tb),.int 0]) pc=some (.tup [.int (zk tb),.int 0]):=ze
  generalize upd H10 pc (.tup [.int (zk tb),.int 0])=H11 at s11 ec
  refine ⟨szl (show 2≤1000 by decide),fun pl hpl=>?_⟩
  have s12:=zo (o:=.lst [.ref pa,.ref pc]) (Same.refl H11) hpl
  have el:upd H11 pl (.lst [.ref pa,.ref pc]) pl=some (.lst [.ref pa,.ref pc]):=ze
  generalize upd H11 pl (.lst [.ref pa,.ref pc])=H12 at s12 el
  have sm:Same H7 H12:=fun c o z=>s12 c o (s11 c o (s9 c o z))
  refine ⟨_,rfl,.inr ⟨_,rfl,?_⟩⟩
  by_cases hk:k < t
  ·refine ⟨pl,_,1,.ref pc,rfl,(by rw [decide_eq_true hk];rfl),SqL.of el,rfl,kN _ _ ⟨pc,rfl,?_,rb7.keep (Same.tups sm),F7.trans (Frm.of sm),R7.keep sm⟩⟩
   rw [if_pos hk,if_pos hk];exact s12 _ _ ec
  ·refine ⟨pl,_,0,.ref pa,rfl,(by rw [decide_eq_false hk];rfl),SqL.of el,rfl,kN _ _ ⟨pa,rfl,?_,rb7.keep (Same.tups sm),F7.trans (Frm.of sm),R7.keep sm⟩⟩
   rw [if_neg hk,if_neg hk];exact s12 _ _ (s11 _ _ ea)
 clear rb7 F7 R7
 rintro σ H8 ⟨ps,rfl,es,rb8,F8,R8⟩
 obtain ⟨l0,l1,r0,r1⟩:=zep t k tb
 have es':H8 ps=some (.tup [.int (lO t k tb),.int (rO t k tb)]):=es
 clear es
 refine ⟨_,rfl,_,rfl,ps,_,_,_,rfl,rfl,SqT.of es',rfl,_,rfl,ps,_,_,_,rfl,rfl,SqT.of es',rfl,szl (show 5≤1000 by decide),fun pn hpn=>?_⟩
 have rn9:Rep (upd H8 pn (.tup [.int t,.str "mid",.int (lO t k tb),.int (rO t k tb),.int 2])) (midT t (lO t k tb) (rO t k tb) 2) (.ref pn):=(RepL.cons (.int t) (.cons (.str _) (.cons (.int _) (.cons (.int _) (.cons (.int 2) .nil))))).new hpn
 have en9:upd H8 pn (.tup [.int t,.str "mid",.int (lO t k tb),.int (rO t k tb),.int 2]) pn=some (.tup [.int t,.str "mid",.int (lO t k tb),.int (rO t k tb),.int 2]):=ze
 have s9:=zo (o:=.tup [.int t,.str "mid",.int (lO t k tb),.int (rO t k tb),.int 2]) (Same.refl H8) hpn
 generalize upd H8 pn (.tup [.int t,.str "mid",.int (lO t k tb),.int (rO t k tb),.int 2])=H9 at rn9 s9 en9
 have rb9:=rb8.keep (Same.tups s9)
 have R9:=R8.keep s9
 have F9:=F8.trans (Frm.of s9)
 refine ⟨_,rfl,_,rfl,_,rfl,_,rfl,.inr ⟨_,rfl,row,k,_,rfl,R9,fun qn b H10 ao f10 R10 qa=>?_⟩⟩
 have ao':zeK k (if k < t then 0 else 1) qn:=by
  by_cases hk:k < t
  ·rw [decide_eq_true hk] at ao;rw [if_pos hk];exact ao
  ·rw [decide_eq_false hk] at ao;rw [if_neg hk];exact ao
 clear ao
 have tk10:=f10.tupsR R9
 have rb10:=rb9.keep tk10
 have rn10:=rn9.keep tk10
 have en10:=tk10 _ _ en9
 have F10:=F9.trans f10
 dsimp only [zc3]
 refine zaY (fun σ H'=>∃nt vn qn b k11,σ=[some (.ref row),some (.int way),some (.ref pk),some (.int t),some (.int k),some (.bl (decide (k < t))),some vb,none,some (.ref ps),some vn,some (.ref b),k11]∧G5 nt∧Rep H' nt vn∧Rep H' tb vb∧QAt cl H' qn b∧(∀cs,zC cs (zk tb)=some tb→zC cs (zk nt)=some nt→Ans cs (zk nt) qn (.error true))∧Frm [row] H H'∧RowV H' row) (fun N kN=>?_) ?_
 ·refine ⟨_,rfl,rfl,_,rfl,?_⟩
  rw [zan]
  by_cases c3:way=3
  ·refine ifT (decide_eq_true c3) ?_
   rcases pb' with ⟨z,_⟩ | ⟨_,rfl⟩
   ·omega
   refine ⟨_,rfl,_,rfl,pn,_,rfl,SqT.of en10,?_,fun p7 hp7=>?_⟩
   ·rintro ⟨_,z⟩
    exact absurd (show HT.sIx 5 5 (some 4)=5 from z) (by decide)
   have e7:upd H10 p7 (.tup (cutV [V.int t,.str "mid",.int (lO t k (lowT k)),.int (rO t k (lowT k)),.int 2] none (some 4))) p7=some (.tup [.int t,.str "mid",.int (lO t k (lowT k)),.int (rO t k (lowT k))]):=ze
   have s7:=zo (o:=.tup (cutV [V.int t,.str "mid",.int (lO t k (lowT k)),.int (rO t k (lowT k)),.int 2] none (some 4))) (Same.refl H10) hp7
   generalize upd H10 p7 (.tup (cutV [V.int t,.str "mid",.int (lO t k (lowT k)),.int (rO t k (lowT k)),.int 2] none (some 4)))=H11 at e7 s7
   have R11:=R10.keep s7
   refine ⟨_,rfl,row,_,rfl,R11,(show (0:Int) < 298 by decide),(by decide+kernel),fun c H12 c0 c1 f12 R12=>⟨_,_,rfl,rfl,szl (show 1≤1000 by decide),fun p9 hp9=>?_⟩⟩
   have tk12:=f12.tupsR R11
   have e12:=tk12 _ _ e7
   have e13:upd H12 p9 (.tup [.int (3+c)]) p7=some (.tup [.int t,.str "mid",.int (lO t k (lowT k)),.int (rO t k (lowT k))]):=by rw [zj (zh e12 hp9)];exact e12
   refine ⟨p7,p9,_,_,rfl,rfl,e13,ze,szl (show 5≤1000 by decide),fun r14 H14 s14 e14=>?_⟩
   have s1214:Same H12 H14:=fun b o z=>s14 b o (zo (Same.refl H12) hp9 b o z)
   have F14:Frm [row] H H14:=((F10.trans (Frm.of s7)).trans f12).trans (Frm.of s1214)
   have R14:=R12.keep s1214
   have rb14:=((rb10.keep (Same.tups s7)).keep tk12).keep (Same.tups s1214)
   have rn14:Rep H14 (midT t (lO t k (lowT k)) (rO t k (lowT k)) (3+c)) (.ref r14):=za7 e14 (.cons (.int _) (.cons (.str _) (.cons (.int _) (.cons (.int _) (.cons (.int _) .nil)))))
   refine fun b1 d1 hb1 hd1 _=>mkQ2 hb1 hd1 fun H15 s15 ⟨d1,e1⟩=>?_
   refine ⟨_,rfl,_,_,rfl,rfl,fun b2 d2 hb2 hd2 _=>mkQ2 hb2 hd2 fun H16 s16 ⟨d2,e2⟩=>?_⟩
   refine ⟨_,rfl,_,_,rfl,rfl,fun b3 d3 hb3 hd3 _=>mkQ2 hb3 hd3 fun H17 s17 ⟨d3,e3⟩=>?_⟩
   refine ⟨_,rfl,_,_,rfl,rfl,_,rfl,_,_,rfl,rfl,fun b4 d4 hb4 hd4 _=>mkQ2 hb4 hd4 fun H18 s18 ⟨d4,e4⟩=>?_⟩
   refine ⟨szl (show 4≤1000 by decide),fun pl hpl=>?_⟩
   have s19:=zo (o:=.lst [.ref b1,.ref b2,.ref b3,.ref b4]) (Same.refl H18) hpl
   have el:upd H18 pl (.lst [.ref b1,.ref b2,.ref b3,.ref b4]) pl=some (.lst [.ref b1,.ref b2,.ref b3,.ref b4]):=ze
   generalize upd H18 pl (.lst [.ref b1,.ref b2,.ref b3,.ref b4])=H19 at s19 el
   have sm:Same H14 H19:=fun b o z=>s19 b o (s18 b o (s17 b o (s16 b o (s15 b o z))))
   have R19:=R14.keep sm
   have a1:QAt cl H19 (.str .non .non) b1:=⟨d1,_,s19 _ _ (s18 _ _ (s17 _ _ (s16 _ _ e1))),_,_,rfl,.non,.non⟩
   have a2:QAt cl H19 (.str .non (.int (t+1))) b2:=⟨d2,_,s19 _ _ (s18 _ _ (s17 _ _ e2)),_,_,rfl,.non,.int _⟩
   have a3:QAt cl H19 (.str (.int (t - 1)) .non) b3:=⟨d3,_,s19 _ _ (s18 _ _ e3),_,_,rfl,.int _,.non⟩
   have a4:QAt cl H19 (.str (.int (t - 1)) (.int (t+1))) b4:=⟨d4,_,s19 _ _ e4,_,_,rfl,.int _,.int _⟩
   have nl:pl≠row:=fun z=>by
    obtain ⟨x,m,e',_⟩:=R19
    rw [z,e'] at el
    cases el
   refine ⟨_,rfl,_,rfl,row,_,rfl,R19,(show (0:Int) < 4 by decide),(by decide+kernel),fun j H20 j0 j1 f20 R20=>?_⟩
   have el20:SqL K H20 pl _:=SqL.of (f20 _ _ (not1 nl) el)
   have tk20:=f20.tupsR R19
   have g14:G5 (midT t (lO t k (lowT k)) (rO t k (lowT k)) (3+c)):=zi3 t0 (by omega) l0 l1 r0 r1 (by omega) (by omega)
   have go:∀lo hi b,QAt cl H19 (.str lo hi) b→zad lo (.int t)=true→zav hi (.int t)=true→dep lo≤3→zai lo hi=false→N [some (.ref row),some (.int way),some (.ref pk),some (.int t),some (.int k),some (.bl (decide (k < t))),some vb,none,some (.ref ps),some (.ref r14),some (.ref b),some (.ref pl)] H20:=fun lo hi b qa gl gr d em=>
    kN _ _ ⟨_,_,_,b,_,rfl,g14,(rn14.keep (Same.tups sm)).keep tk20,(rb14.keep (Same.tups sm)).keep tk20,qa.frm f20 R19,fun cs h1 h2=>zjJ ks h1 (by omega) (by omega) h2 gl gr d em,(F14.trans (Frm.of sm)).trans f20,R20⟩
   rcases (show j=0∨j=1∨j=2∨j=3 by omega) with rfl | rfl | rfl | rfl
   ·exact ⟨pl,_,_,_,rfl,rfl,el20,rfl,go _ _ b1 a1 zb4 zbI (Nat.zero_le _) zc5⟩
   ·exact ⟨pl,_,_,_,rfl,rfl,el20,rfl,go _ _ b2 a2 zb4 (by rw [zd7,decide_eq_true (by omega)]) (Nat.zero_le _) zc5⟩
   ·exact ⟨pl,_,_,_,rfl,rfl,el20,rfl,go _ _ b3 a3 (by rw [gl_int,decide_eq_true (by omega)]) zbI zbp zfu⟩
   ·exact ⟨pl,_,_,_,rfl,rfl,el20,rfl,go _ _ b4 a4 (by rw [gl_int,decide_eq_true (by omega)]) (by rw [zd7,decide_eq_true (by omega)]) zbp (zbH (by omega))⟩
  ·refine ifF (decide_eq_false c3) (kN _ _ ⟨_,_,qn,b,_,rfl,zi3 t0 (by omega) l0 l1 r0 r1 (by decide) (by decide),rn10,rb10,qa,fun cs h1 h2=>?_,F10,R10⟩)
   rcases pb' with ⟨_,bb⟩ | ⟨z,_⟩
   ·exact zkb ks h1 h2 bb ao'
   ·exact absurd z c3
 clear R10 F10 rb10 rn10 en10 qa ao'
 rintro σ H10 ⟨nt,vn,qn,b,k11,rfl,gt,rn10,rb10,qa,an,F10,R10⟩
 have gd2:=gt.dp
 have gn2:=gt.nd
 refine ⟨_,rfl,nt,vn,rfl,rn10,gt.wf,by omega,by omega,fun H11 s11=>?_⟩
 refine ⟨_,rfl,_,rfl,_,rfl,szl (show 2≤1000 by decide),fun pl hpl=>?_⟩
 have s12:=zo (o:=.lst [vb,vn]) s11 hpl
 have e12:upd H11 pl (.lst [vb,vn]) pl=some (.lst [vb,vn]):=ze
 generalize upd H11 pl (.lst [vb,vn])=H12 at s12 e12
 refine ⟨b,pl,_,qn,[vb,vn],[tb,nt],rfl,qa.same s12,e12,.cons (rb10.keep (Same.tups s12)) (.cons (rn10.keep (Same.tups s12)) .nil),by simp,(fun x hx=>?_),fun held=>an _ (held tb (by simp)) (held nt (by simp)),fun p H13 s13 ep=>?_⟩
 ·simp only [List.mem_cons,List.not_mem_nil,or_false] at hx
  rcases hx with rfl | rfl
  ·exact g
  ·exact gt
 ·have sm:Same H10 H13:=fun c o z=>s13 c o (s12 c o z)
  exact ⟨szl (show 3≤1000 by decide),fin p H13 ep (F10.trans (Frm.of sm)) (R10.keep sm)⟩
end
end Pv
namespace Pv
open PySem L2
def ladT:Nat→Th
 | 0=>zau (.int 1) (.str "a") 0 0 1
 | j+1=>zau (.int ((j:Int)+2)) (.str "b") (zk (ladT j)) (zk (ladT j)) ((j:Int)+2)
def lads (n:Nat):List Th:=(List.range (n+1)).map ladT
theorem zbf (n:Nat):lads (n+1)=lads n++ [ladT (n+1)]:=by
 unfold lads
 rw [List.range_succ,List.map_append]
 rfl
theorem zcy (n:Nat):(lads n).length=n+1:=by unfold lads;rw [List.length_map,List.length_range]
theorem zci {n j:Nat}(h:j≤n):ladT j∈lads n:=List.mem_map.mpr ⟨j,List.mem_range.mpr (by omega),rfl⟩
theorem zjC:∀{j:Nat},j≤100→G5 (ladT j)
 | 0,_=>zaD (sm_5 (sm_i (by decide) (by decide)) (sm_s (by constructor <;> decide+kernel)) (sm_i (by decide) (by decide)) (sm_i (by decide) (by decide)) (sm_i (by decide) (by decide))) (by simp)
 | j+1,h=>by
  have sp:=zW (ladT j)
  exact zaD (sm_5 (sm_i (by omega) (by omega)) (sm_s (by constructor <;> decide+kernel)) (sm_i (by omega) (by omega)) (sm_i (by omega) (by omega)) (sm_i (by omega) (by omega))) (by simp)
theorem zf4 {n:Nat}(h:n≤100):∀t∈lads n,G5 t:=fun t ht=>by
 obtain ⟨j,hj,rfl⟩:=List.mem_map.mp ht
 have:=List.mem_range.mp hj
 exact zjC (by omega)
section
variable {cs:List (Int ×Th)}{j:Nat}
def ladN:Nat→Nd
 | 0=>⟨.int 1,.str "a",0,0,1⟩
 | j+1=>⟨.int ((j:Int)+2),.str "b",zk (ladT j),zk (ladT j),(j:Int)+2⟩
theorem zgn:∀j,(ladN j).c=(j:Int)+1
 | 0=>rfl
 | j+1=>by show (j:Int)+2=((j+1:Nat):Int)+1;omega
theorem zkC:∀j,(ladN j).th=ladT j
 | 0=>rfl
 | _+1=>rfl
theorem zle:∀{j:Nat},j≤100→NodeOk (ladN j).k (ladN j).w (ladN j).l (ladN j).r (ladN j).c
 | 0,_=>⟨(fun z=>by cases z),(fun z=>by cases z),by decide,by decide,by decide,by decide⟩
 | j+1,h=>by
  have sp:=zW (ladT j)
  exact ⟨(fun z=>by cases z),(fun z=>by cases z),by show 0≤zk (ladT j);omega,by show 0≤zk (ladT j);omega,by show (1:Int)≤(j:Int)+2;omega,by show (j:Int)+2≤300;omega⟩
theorem zdF {m:Int}(h:zC cs (zk (ladT j))=some (ladT j))(hj:j≤100)(hm:(j:Int)+1 < m):ben cs (zk (ladT j)) m=.ok (ladN j):=zbV (by rw [zkC];exact h) (zle hj) (by rw [zgn];exact hm)
theorem zfa (hj:j≤100):KeyT (ladN j).k:=by
 cases j with
 | zero=>exact zak (by decide) (by decide)
 | succ j=>exact zak (by omega) (by omega)
theorem zin (h:zC cs (zk (ladT (j+1)))=some (ladT (j+1)))(hj:j+1≤100):Ans cs (zk (ladT (j+1))) (.find (.int ((j:Int)+2))) (.ok (.th (.str "b"))):=by
 have sp:=zW (ladT (j+1))
 exact ⟨zak (by omega) (by omega),[ladN (j+1)],none,.own (by omega) (zdF h hj (by omega)) (zfa hj) rfl,by simp,.inr ⟨rfl,[],_,rfl,rfl,rfl⟩⟩
theorem zgM (h1:zC cs (zk (ladT j))=some (ladT j))(hj:j+1≤100):SumE cs (ladN (j+1)) true:=by
 have sp:=zW (ladT j)
 have sz:zV cs (zk (ladT j)) ((j:Int)+2)=.ok ((j:Int)+1):=by rw [zcG (by omega) (zdF h1 (by omega) (by omega)),zgn]
 exact .inr (.inr ⟨_,_,sz,sz,by show (j:Int)+1+(j+1)+1≠(j:Int)+2;omega,rfl⟩)
theorem zkc {lo hi:Th}(h:zC cs (zk (ladT (j+1)))=some (ladT (j+1)))(h1:zC cs (zk (ladT j))=some (ladT j))(hj:j+1≤100)(gl:zad lo (.int ((j:Int)+2))=true)(gr:zav hi (.int ((j:Int)+2))=true)(d:dep lo≤3)(em:zai lo hi=false):Ans cs (zk (ladT (j+1))) (.str lo hi) (.error true):=by
 have sp:=zW (ladT (j+1))
 exact ⟨d,em,0,_,.sum (by omega) (zdF h hj (by omega)) (zfa hj) gl gr (zgM h1 hj),by omega,.inl ⟨_,rfl,rfl⟩⟩
def zaV:Th:=zau (.int 200) (.str "high") 0 0 1
def zcV (j:Nat):Th:=zau (.int 100) (.str "root") (zk (ladT (j+1))) (zk zaV) ((j:Int)+2+2)
theorem zlR:G5 zaV:=zaD (sm_5 (sm_i (by decide) (by decide)) (sm_s (by constructor <;> decide+kernel)) (sm_i (by decide) (by decide)) (sm_i (by decide) (by decide)) (sm_i (by decide) (by decide))) (by simp)
theorem zlK (hj:j+1≤100):G5 (zcV j):=by
 have s1:=zW (ladT (j+1))
 have s2:=zW zaV
 exact zaD (sm_5 (sm_i (by decide) (by decide)) (sm_s (by constructor <;> decide+kernel)) (sm_i (by omega) (by omega)) (sm_i (by omega) (by omega)) (sm_i (by omega) (by omega))) (by simp)
theorem ziM {lo hi:Th}(hr:zC cs (zk (zcV j))=some (zcV j))(hh:zC cs (zk zaV)=some zaV)(h:zC cs (zk (ladT (j+1)))=some (ladT (j+1)))(h1:zC cs (zk (ladT j))=some (ladT j))(hj:j+1≤100)(gl:zad lo (.int ((j:Int)+2))=true)(gr:zav hi (.int ((j:Int)+2))=true)(gl1:zad lo (.int 100)=true)(d:dep lo≤3)(em:zai lo hi=false):Ans cs (zk (zcV j)) (.str lo hi) (.error true):=by
 have s1:=zW (ladT (j+1))
 have s2:=zW zaV
 have s3:=zW (zcV j)
 have e:ben cs (zk (zcV j)) 301=.ok ⟨.int 100,.str "root",zk (ladT (j+1)),zk zaV,(j:Int)+2+2⟩:=zbV (nd:=⟨.int 100,.str "root",zk (ladT (j+1)),zk zaV,(j:Int)+2+2⟩) hr ⟨(fun z=>by cases z),(fun z=>by cases z),by show 0≤zk (ladT (j+1));omega,by show 0≤zk zaV;omega,by show (1:Int)≤(j:Int)+2+2;omega,by show (j:Int)+2+2≤300;omega⟩ (by show (j:Int)+2+2 < 301;omega)
 have eh:ben cs (zk zaV) ((j:Int)+2+2)=.ok ⟨.int 200,.str "high",0,0,1⟩:=zbV (nd:=⟨.int 200,.str "high",0,0,1⟩) hh ⟨(fun z=>by cases z),(fun z=>by cases z),by decide,by decide,by decide,by decide⟩ (by show (1:Int) < (j:Int)+2+2;omega)
 have et:=zdF (m:=(j:Int)+2+2) h hj (by omega)
 refine ⟨d,em,1,_,.push (by omega) e (zak (by decide) (by decide)) (fun _ _=>⟨(j:Int)+2,1,?_,zcG (by show zk zaV≠0;omega) eh,by show (j:Int)+2+1+1=(j:Int)+2+2;omega⟩) ?_,by omega,.inl ⟨_,rfl,rfl⟩⟩
 ·rw [zcG (by show zk (ladT (j+1))≠0;omega) et,zgn]
  exact congrArg _ (by omega)
 ·show StW cs lo hi 0 (if zad lo (.int 100)=true then zk (ladT (j+1)) else 0) _ _ _ _
  rw [if_pos gl1]
  exact .sum (by omega) et (zfa hj) gl gr (zgM h1 hj)
end
end Pv
namespace Pv
open PySem L2
abbrev zb7:Stmt:=top 83
theorem z9:zm ["row","things","k","number","top","high","ask"] ["row"] (zg zb7):=⟨rfl,rfl,rfl,by decide+kernel,rfl,by decide+kernel,by decide+kernel⟩
theorem zhD:∀i,∃pre,lads i=pre++ [ladT i]
 | 0=>⟨[],rfl⟩
 | i+1=>⟨lads i,zbf i⟩
structure Wide (lo hi:Th):Prop where
 gl:∀i:Int,1≤i→i≤150→zad lo (.int i)=true
 gr:∀i:Int,1≤i→i≤150→zav hi (.int i)=true
 d:dep lo≤3
 em:zai lo hi=false
def zkT (CC:Addr):Sp:=fun vs H Q E=>∃(row:Addr),vs=[.ref row]∧RowV H row∧Cl CC E∧∀H',Frm [row] H H'→Q (.bl true) H'
seal PE PS PSs PT PA PI PTs PW PG PGs PO
section
variable {P:Program}{w:World}{K:PySem.W.Frag}{mg:Str→Option Value}{base:Heap}{cl:Kd→Addr}{CC CN CB:Addr}
theorem zlo (D:Dfn K mg "_law_ladder" zb7 ["row"]) (F_law_take:Fn P w K mg base "_law_take" 1 ["row","many"] zcF) (F_seal:Fn P w K mg base "seal" 13 ["thing"] zcf) (F_checked:FnX P w K mg base "checked" 26 ["root","ask","paper"] (zgG cl CC CN CB)) (F_law_kinds:Fn P w K mg base "_law_kinds" 27 ["root","ask","paper"] (zjI cl))
  (K_Find:Mkr P w K mg base "Find" (cl .fi) 1 ["self","key"] (spI1 (cl .fi) "key")) (K_Stretch:Mkr P w K mg base "Stretch" (cl .st) 1 ["self","low","high"] (spI2 (cl .st) "low" "high")) (m_range:mg "range" =none):FnX P w K mg base "_law_ladder" 28 ["row"] (zkT CC):=by
 refine D.okX (k:=27) z9 (fun vs H Q E h=>?_) (fun f cdv A outer s H vs Q E hr h=>?_)
 ·obtain ⟨row,rfl,_⟩:=h;rfl
 obtain ⟨row,rfl,R0,clE,q⟩:=h
 refine ⟨_,(zc (zq (i:=1) z9.nd rfl (Or.inl rfl) (zL (za (zP (za zd (za z7 (za zd (za zd (za zd zb)))))) zb)))
 (zc (zbm PassesOwn.leaving rfl (zhw rfl m_range (za (zA zT zd (zw F_law_take hr (by omega) (by rfl) (za (pv 0) (za zd zb)))) zb)) (zX (i:=2) z9.nd rfl (Or.inl rfl))
 (zc (zq (i:=3) z9.nd rfl (Or.inl rfl) (zw F_seal hr (by omega) (by rfl) (za (zz zI (pv 1) (zdr zco zd) (fun _ _=>rfl)) zb)))
 (zf (zao (zdp PySem.F.plainAttrs_list PySem.F.slot_list_append PySem.F.type_list_append zaP (pv 1) (za (zP (za (zA zT (pv 2) zd) (za z7 (za (pv 3) (za (pv 3) (za (zA zT (pv 2) zd) zb)))))) zb))))))
 (zc (zq (i:=4) z9.nd rfl (Or.inl rfl) (zz zI (pv 1) (zdr zco zd) (fun _ _=>rfl)))
 (zc (zD (zx (zb6 hr) (zO F_checked hr (by omega) (by rfl) zE (za (zw F_seal hr (by omega) (by rfl) (za (pv 4) zb)) (za (zah K_Find hr (by omega) (by rfl) (za (zz zH (pv 4) zd (fun _ _=>rfl)) zb)) (za (pv 1) zb)))) z7 (zt _))
 (zf (zl zal))
 zr)
 (zc (zD (zx zaO (zw F_law_take hr (by omega) (by rfl) (za (pv 0) (za zd zb))) zd (zt _))
 (zc (zq (i:=5) z9.nd rfl (Or.inl rfl) (zP (za zd (za z7 (za zd (za zd (za zd zb)))))))
 (zf (zq (i:=1) z9.nd rfl (Or.inl rfl) (zA zdY (pv 1) (zL (za (pv 5) (za (zP (za zd (za z7 (za (zw F_seal hr (by omega) (by rfl) (za (pv 4) zb)) (za (zw F_seal hr (by omega) (by rfl) (za (pv 5) zb)) (za (zA zT (zz zH (pv 4) zd (fun _ _=>rfl)) zd) zb)))))) zb)))))))
 zr)
 (zc (zq (i:=6) z9.nd rfl (Or.inl rfl) (zz zI (zL (za (zah K_Stretch hr (by omega) (by rfl) (za zJ (za zJ zb))) (za (zah K_Stretch hr (by omega) (by rfl) (za zJ (za zd zb))) (za (zah K_Stretch hr (by omega) (by rfl) (za zd (za zJ zb))) zb)))) (zw F_law_take hr (by omega) (by rfl) (za (pv 0) (za zd zb))) (fun _ _=>rfl)))
 (zf (zl (zS (zfg hr) (zw F_law_kinds hr (by omega) (by rfl) (za (zw F_seal hr (by omega) (by rfl) (za (zz zI (pv 1) (zdr zco zd) (fun _ _=>rfl)) zb)) (za (pv 6) (za (pv 1) zb)))) (zL (za zal (za zal (za zal zb)))) (zt _)))))))))),?_⟩
 refine ⟨szl (show 5≤1000 by decide),fun p0 hp0=>?_⟩
 have r0:Rep (upd H p0 (.tup [.int 1,.str "a",.int 0,.int 0,.int 1])) (ladT 0) (.ref p0):=(RepL.cons (.int 1) (.cons (.str _) (.cons (.int 0) (.cons (.int 0) (.cons (.int 1) .nil))))).new hp0
 have s0:=zo (o:=.tup [.int 1,.str "a",.int 0,.int 0,.int 1]) (Same.refl H) hp0
 generalize upd H p0 (.tup [.int 1,.str "a",.int 0,.int 0,.int 1])=H0 at r0 s0
 refine ⟨szl (show 1≤1000 by decide),fun pt hpt=>?_⟩
 have s1:=zo (o:=.lst [.ref p0]) (Same.refl H0) hpt
 have e1:upd H0 pt (.lst [.ref p0]) pt=some (.lst [.ref p0]):=ze
 have R00:=R0.keep s0
 have nt:=R00.ne hpt
 generalize upd H0 pt (.lst [.ref p0])=H1 at s1 e1
 have R1:=R00.keep s1
 have r1:RepL H1 (lads 0) [.ref p0]:=.cons (r0.keep (Same.tups s1)) .nil
 refine ⟨_,rfl,row,_,rfl,R1,(show (0:Int) < 59 by decide),(by decide+kernel),fun x H2 x0 x1 f2 R2=>⟨_,_,rfl,rfl,_,rfl,(by omega),(by omega),?_⟩⟩
 have r2:=r1.keep (f2.tupsR R1)
 have F2:Frm [row] H H2:=((Frm.of s0).trans (Frm.of s1)).trans f2
 have hptH:H pt=none:=s0.free hpt
 have e2:=f2 _ _ (not1 nt) e1
 obtain ⟨m,rfl⟩:∃m:Nat,x=(m:Int):=⟨x.toNat,by omega⟩
 rw [show (1+(m:Int)).toNat=m+1 by omega]
 refine zhK (n:=m+1) (fun i σ H'=>∃(vs:List V) (k2 k3:Option V),σ=[some (.ref row),some (.ref pt),k2,k3,none,none,none]∧H' pt=some (.lst vs)∧RepL H' (lads i) vs∧RowV H' row∧Frm [row] H H') ⟨_,_,_,rfl,e2,r2,R2,F2⟩ ?_ ?_
 ·rintro i σ H3 hi ⟨vs,k2,k3,rfl,e3,r3,R3,F3⟩
  rw [Int.zero_add]
  obtain ⟨pre,ep⟩:=zhD i
  have r3':=r3
  rw [ep] at r3'
  obtain ⟨us,v,rfl,rus,rv⟩:=r3'.unsnoc
  have g:=zjC (j:=i) (by omega)
  have gd:=g.dp
  have gn:=g.nd
  have hlen:=r3.len
  rw [zcy] at hlen
  refine ⟨_,rfl,_,rfl,pt,_,_,_,rfl,rfl,SqL.of e3,zbR,ladT i,v,rfl,rv,g.wf,by omega,by omega,fun H4 s4=>?_⟩
  have e4:=s4 _ _ e3
  refine ⟨_,rfl,.inl ⟨rfl,_,SqL.of e4⟩,_,rfl,_,_,rfl,rfl,_,rfl,_,rfl,_,rfl,_,_,rfl,rfl,szl (show 5≤1000 by decide),fun p5 hp5=>?_⟩
  have r5:Rep (upd H4 p5 (.tup [.int ((i:Int)+2),.str "b",.int (zk (ladT i)),.int (zk (ladT i)),.int ((i:Int)+2)])) (ladT (i+1)) (.ref p5):=(RepL.cons (.int _) (.cons (.str _) (.cons (.int _) (.cons (.int _) (.cons (.int _) .nil))))).new hp5
  have s5:=zo (o:=.tup [.int ((i:Int)+2),.str "b",.int (zk (ladT i)),.int (zk (ladT i)),.int ((i:Int)+2)]) s4 hp5
  generalize upd H4 p5 (.tup [.int ((i:Int)+2),.str "b",.int (zk (ladT i)),.int (zk (ladT i)),.int ((i:Int)+2)])=H5 at r5 s5
  have e5:=s5 _ _ e3
  refine ⟨pt,_,_,rfl,rfl,e5,Nat.lt_of_lt_of_le (show (us++ [v]).length < 1000 by omega) (szl (Nat.le_refl _)),?_⟩
  have tk:Tups H5 (upd H5 pt (.lst (us++ [v]++ [.ref p5]))):=Tups.upd fun xs z=>by rw [e5] at z;cases z
  refine ⟨_,_,_,rfl,ze,?_,?_,fun b o n e=>by rw [zj (zh e hptH)];exact s5 _ _ (F3 b o n e)⟩
  ·rw [zbf]
   exact ((r3.keep (Same.tups s5)).keep tk).snoc (r5.keep tk)
  ·obtain ⟨a,b,e,h⟩:=R3.keep s5
   exact ⟨a,b,by rw [zj (Ne.symm nt)];exact e,h⟩
 rintro σ H3 ⟨vs,k2,k3,rfl,e3,r3,R3,F3⟩
 have hm:m+1≤100:=by omega
 have g:=zjC (j:=m+1) hm
 have gd:=g.dp
 have gn:=g.nd
 have hlen:=r3.len
 rw [zcy] at hlen
 have r3':=r3
 rw [zbf] at r3'
 obtain ⟨us,v,rfl,rus,rv⟩:=r3'.unsnoc
 obtain ⟨p,vk,vw,rfl,ea,rk,rw'⟩:=zK (k:=.int ((m:Int)+2)) (wo:=.str "b") (l:=zk (ladT m)) (r:=zk (ladT m)) (c:=(m:Int)+2) rv
 cases rk
 cases rw'
 refine ⟨_,rfl,_,rfl,pt,_,_,_,rfl,rfl,SqL.of e3,zbR,?_⟩
 refine ⟨_,rfl,ladT (m+1),_,rfl,rv,g.wf,by omega,by omega,fun H4 s4=>?_⟩
 refine ⟨_,rfl,p,_,_,_,rfl,rfl,SqT.of (s4 _ _ ea),rfl,fun b1 d1 hb1 hd1 _=>mkQ1 hb1 hd1 fun H5 s5 ⟨d1,eb⟩=>?_⟩
 have s35:Same H3 H5:=fun b o z=>s5 b o (s4 b o z)
 refine ⟨_,rfl,b1,pt,_,.find (.int ((m:Int)+2)),_,lads (m+1),rfl,⟨d1,_,eb,_,rfl,.int _⟩,s35 _ _ e3,r3.keep (Same.tups s35),by rw [zcy];omega,zf4 hm,clE.s,fun held=>⟨_,zin (held _ (zci (Nat.le_refl _))) hm,fun y v H6 er s6 rv6=>?_,fun e H6 er=>(by cases er)⟩⟩
 cases er
 have s36:Same H3 H6:=fun b o z=>s6 b o (s35 b o z)
 have rv':Rep H6 (.str "b") v:=rv6
 cases rv'
 refine ⟨.str "b",.str "b",.str _,.str _,(by decide),_,rfl,ifF (by rw [zaw];rfl) ?_⟩
 have R6:=R3.keep s36
 have F6:Frm [row] H H6:=F3.trans (Frm.of s36)
 have e6:=s36 _ _ e3
 have r6:=r3.keep (Same.tups s36)
 have ea6:=s36 _ _ ea
 have rv6':=rv.keep (Same.tups s36)
 clear rv6 R3 e3 r3 ea rv rus
 dsimp only [zjk]
 refine zaY (fun σ H'=>∃(pt:Addr) (k5:Option V) (vs:List V) (v:V) (ts:List Th) (t:Th),σ=[some (.ref row),some (.ref pt),k2,k3,some (.ref p),k5,none]∧H' pt=some (.lst (vs++ [v]))∧RepL H' (ts++ [t]) (vs++ [v])∧ts.length≤400∧(∀u∈ts++ [t],G5 u)∧(∀lo hi,Wide lo hi→Held (zZ (ts++ [t])) (ts++ [t])→Ans (zZ (ts++ [t])) (zk t) (.str lo hi) (.error true))∧RowV H' row∧pt≠row∧Frm [row] H H') (fun N kN=>?_) ?_
 ·refine ⟨_,rfl,row,_,rfl,R6,(show (0:Int) < 2 by decide),(by decide+kernel),fun j H7 j0 j1 f7 R7=>⟨rfl,_,rfl,?_⟩⟩
  rw [zan]
  have tk7:=f7.tupsR R6
  have e7:=f7 _ _ (not1 nt) e6
  have r7:=r6.keep tk7
  by_cases c:j=0
  ·refine ifT (decide_eq_true c) ?_
   refine ⟨szl (show 5≤1000 by decide),fun ph hph=>?_⟩
   have rh:Rep (upd H7 ph (.tup [.int 200,.str "high",.int 0,.int 0,.int 1])) zaV (.ref ph):=(RepL.cons (.int 200) (.cons (.str _) (.cons (.int 0) (.cons (.int 0) (.cons (.int 1) .nil))))).new hph
   have s8:=zo (o:=.tup [.int 200,.str "high",.int 0,.int 0,.int 1]) (Same.refl H7) hph
   generalize upd H7 ph (.tup [.int 200,.str "high",.int 0,.int 0,.int 1])=H8 at rh s8
   have gh:=zlR
   have gd1:=gh.dp
   have gn1:=gh.nd
   refine ⟨_,rfl,_,rfl,_,rfl,ladT (m+1),_,rfl,(rv6'.keep tk7).keep (Same.tups s8),g.wf,by omega,by omega,fun H9 s9=>?_⟩
   refine ⟨_,rfl,zaV,_,rfl,rh.keep (Same.tups s9),gh.wf,by omega,by omega,fun H10 s10=>?_⟩
   have s710:Same H7 H10:=fun b o z=>s10 b o (s9 b o (s8 b o z))
   have ea10:=s710 _ _ (tk7 _ _ ea6)
   refine ⟨_,rfl,p,_,_,_,rfl,rfl,SqT.of ea10,rfl,_,_,rfl,rfl,szl (show 5≤1000 by decide),fun pr hpr=>?_⟩
   have rr:Rep (upd H10 pr (.tup [.int 100,.str "root",.int (zk (ladT (m+1))),.int (zk zaV),.int ((m:Int)+2+2)])) (zcV m) (.ref pr):=(RepL.cons (.int 100) (.cons (.str _) (.cons (.int _) (.cons (.int _) (.cons (.int _) .nil))))).new hpr
   have s11:=zo (o:=.tup [.int 100,.str "root",.int (zk (ladT (m+1))),.int (zk zaV),.int ((m:Int)+2+2)]) (Same.refl H10) hpr
   generalize upd H10 pr (.tup [.int 100,.str "root",.int (zk (ladT (m+1))),.int (zk zaV),.int ((m:Int)+2+2)])=H11 at rr s11
   refine ⟨szl (show 2≤1000 by decide),fun pl hpl=>?_⟩
   have s12:=zo (o:=.lst [.ref ph,.ref pr]) (Same.refl H11) hpl
   have e12:upd H11 pl (.lst [.ref ph,.ref pr]) pl=some (.lst [.ref ph,.ref pr]):=ze
   generalize upd H11 pl (.lst [.ref ph,.ref pr])=H12 at s12 e12
   have s712:Same H7 H12:=fun b o z=>s12 b o (s11 b o (s710 b o z))
   refine ⟨pt,pl,_,_,rfl,rfl,s712 _ _ e7,e12,szl (show (us++ [V.ref p]).length+2≤1000 by omega),fun pq hpq=>?_⟩
   have s13:=zo (o:=.lst ((us++ [V.ref p])++ [.ref ph,.ref pr])) s712 hpq
   have e13:upd H12 pq (.lst ((us++ [V.ref p])++ [.ref ph,.ref pr])) pq=some (.lst (((us++ [V.ref p])++ [.ref ph])++ [.ref pr])):=by rw [List.append_assoc (us++ [V.ref p])];exact ze
   have t13:Same H12 (upd H12 pq (.lst ((us++ [V.ref p])++ [.ref ph,.ref pr]))):=zo (Same.refl H12) hpq
   generalize upd H12 pq (.lst ((us++ [V.ref p])++ [.ref ph,.ref pr]))=H13 at s13 e13 t13
   have rh13:Rep H13 zaV (.ref ph):=rh.keep (Same.tups fun b o z=>t13 b o (s12 b o (s11 b o (s10 b o (s9 b o z)))))
   have rr13:Rep H13 (zcV m) (.ref pr):=rr.keep (Same.tups fun b o z=>t13 b o (s12 b o z))
   refine kN _ _ ⟨pq,_,us++ [V.ref p]++ [.ref ph],.ref pr,lads (m+1)++ [zaV],zcV m,rfl,e13,((r7.keep (Same.tups s13)).snoc rh13).snoc rr13,by rw [List.length_append,zcy,List.length_singleton];omega,fun u hu=>?_,fun lo hi wd held=>?_,R7.keep s13,(R7.keep s712).ne hpq,(F6.trans f7).trans (Frm.of s13)⟩
   ·rcases List.mem_append.mp hu with h | h
    ·rcases List.mem_append.mp h with h | h
     ·exact zf4 hm u h
     ·rw [List.mem_singleton.mp h];exact gh
    ·rw [List.mem_singleton.mp h];exact zlK hm
   ·exact ziM (held _ (by simp)) (held _ (by simp)) (held _ (List.mem_append_left _ (List.mem_append_left _ (zci (Nat.le_refl _))))) (held _ (List.mem_append_left _ (List.mem_append_left _ (zci (by omega))))) hm (wd.gl _ (by omega) (by omega)) (wd.gr _ (by omega) (by omega)) (wd.gl _ (by decide) (by decide)) wd.d wd.em
  ·refine ifF (decide_eq_false c) (kN _ _ ⟨pt,_,us,.ref p,lads m,ladT (m+1),rfl,e7,by rw [←zbf];exact r7,by rw [zcy];omega,by rw [←zbf];exact zf4 hm,fun lo hi wd held=>?_,R7,nt,F6.trans f7⟩)
   rw [←zbf] at held ⊢
   exact zkc (held _ (zci (Nat.le_refl _))) (held _ (zci (by omega))) hm (wd.gl _ (by omega) (by omega)) (wd.gr _ (by omega) (by omega)) wd.d wd.em
 clear R6 e6 r6 ea6 rv6' e1 e2 r1 r2
 rintro σ H7 ⟨pt,k5,vs,v,ts,t,rfl,e7,r7,hl,hg,an,R7,npt,F7⟩
 have g:=hg t (by simp)
 have gd:=g.dp
 have gn:=g.nd
 refine zaY (fun σ H'=>∃(lo hi:Th) (b:Addr),σ=[some (.ref row),some (.ref pt),k2,k3,some (.ref p),k5,some (.ref b)]∧Wide lo hi∧QAt cl H' (.str lo hi) b∧H' pt=some (.lst (vs++ [v]))∧RepL H' (ts++ [t]) (vs++ [v])∧Frm [row] H H') (fun N kN=>?_) ?_
 ·skip
  refine fun b1 d1 hb1 hd1 _=>mkQ2 hb1 hd1 fun H8 s8 ⟨d1,eb1⟩=>?_
  refine fun b2 d2 hb2 hd2 _=>mkQ2 hb2 hd2 fun H9 s9 ⟨d2,eb2⟩=>?_
  refine fun b3 d3 hb3 hd3 _=>mkQ2 hb3 hd3 fun H10 s10 ⟨d3,eb3⟩=>?_
  refine ⟨szl (show 3≤1000 by decide),fun pl hpl=>?_⟩
  have s11:=zo (o:=.lst [.ref b1,.ref b2,.ref b3]) (Same.refl H10) hpl
  have el:upd H10 pl (.lst [.ref b1,.ref b2,.ref b3]) pl=some (.lst [.ref b1,.ref b2,.ref b3]):=ze
  generalize upd H10 pl (.lst [.ref b1,.ref b2,.ref b3])=H11 at s11 el
  have sm:Same H7 H11:=fun b o z=>s11 b o (s10 b o (s9 b o (s8 b o z)))
  have R11:=R7.keep sm
  have a1:QAt cl H11 (.str .non .non) b1:=⟨d1,_,s11 _ _ (s10 _ _ (s9 _ _ eb1)),_,_,rfl,.non,.non⟩
  have a2:QAt cl H11 (.str .non (.int 300)) b2:=⟨d2,_,s11 _ _ (s10 _ _ eb2),_,_,rfl,.non,.int _⟩
  have a3:QAt cl H11 (.str (.int 0) .non) b3:=⟨d3,_,s11 _ _ eb3,_,_,rfl,.int _,.non⟩
  have nl:pl≠row:=fun z=>by
   obtain ⟨x,m,e',_⟩:=R11
   rw [z,e'] at el
   cases el
  refine ⟨_,rfl,row,_,rfl,R11,(show (0:Int) < 3 by decide),(by decide+kernel),fun j H12 j0 j1 f12 R12=>?_⟩
  have el12:SqL K H12 pl _:=SqL.of (f12 _ _ (not1 nl) el)
  have e12:=f12 _ _ (not1 npt) (sm _ _ e7)
  have r12:=(r7.keep (Same.tups sm)).keep (f12.tupsR R11)
  have w1:Wide .non .non:=⟨fun _ _ _=>zb4,fun _ _ _=>zbI,Nat.zero_le _,zc5⟩
  have w2:Wide .non (.int 300):=⟨fun _ _ _=>zb4,fun i _ _=>(by rw [zd7,decide_eq_true (by omega)]),Nat.zero_le _,zc5⟩
  have w3:Wide (.int 0) .non:=⟨fun i _ _=>(by rw [gl_int,decide_eq_true (by omega)]),fun _ _ _=>zbI,zbp,zfu⟩
  rcases (show j=0∨j=1∨j=2 by omega) with rfl | rfl | rfl
  ·exact ⟨pl,_,_,_,rfl,rfl,el12,rfl,kN _ _ ⟨_,_,b1,rfl,w1,a1.frm f12 R11,e12,r12,(F7.trans (Frm.of sm)).trans f12⟩⟩
  ·exact ⟨pl,_,_,_,rfl,rfl,el12,rfl,kN _ _ ⟨_,_,b2,rfl,w2,a2.frm f12 R11,e12,r12,(F7.trans (Frm.of sm)).trans f12⟩⟩
  ·exact ⟨pl,_,_,_,rfl,rfl,el12,rfl,kN _ _ ⟨_,_,b3,rfl,w3,a3.frm f12 R11,e12,r12,(F7.trans (Frm.of sm)).trans f12⟩⟩
 clear e7 r7 R7
 rintro σ H8 ⟨lo,hi,b,rfl,wd,qa,e8,r8,F8⟩
 obtain ⟨us',v',eu,_,rv8⟩:=r8.unsnoc
 obtain ⟨_,e9⟩:=List.append_inj' eu rfl
 cases e9
 refine ⟨_,rfl,_,rfl,pt,_,_,_,rfl,rfl,SqL.of e8,zbR,t,v,rfl,rv8,g.wf,by omega,by omega,fun H9 s9=>?_⟩
 refine ⟨_,rfl,_,rfl,b,pt,_,.str lo hi,_,ts++ [t],rfl,qa.same s9,s9 _ _ e8,r8.keep (Same.tups s9),by rw [List.length_append,List.length_singleton];omega,hg,an lo hi wd,fun p' H10 s10 ep=>⟨szl (show 3≤1000 by decide),fun p2 hp2=>?_⟩⟩
 exact ⟨p',p2,_,rfl,rfl,SqL.of (by rw [zj (zh ep hp2)];exact ep),SqL.of ze,zk1,q _ ((F8.trans (Frm.of fun c o z=>s10 c o (s9 c o z))).trans (Frm.new hp2))⟩
end
end Pv
namespace Ps
open PySem PyProof.Rows PySem.W
theorem zmx {cmp:Nat→Nat→(Bool→Shared→Prop)→Shared→Prop}{G:Array Nat→Shared→Prop}{s:Shared}(h:cmp 1 0 (fun b s'=>if b=true then G #[1,0] s' else G #[0,1] s') s)(m:∀i j (C C':Bool→Shared→Prop) s,(∀b s',C b s'→C' b s')→cmp i j C s→cmp i j C' s):(kas_sort 2).kasWp cmp G s:=by
 refine m 1 0 _ _ s (fun b s' hb=>?_) h
 cases b with
 | true=>
  rw [if_pos rfl] at hb
  exact hb
 | false=>
  rw [if_neg (by decide)] at hb
  exact hb
section
variable {prog:Program}{w:World}{A:Around}{E:Value→Shared→Prop}{s:Shared}
theorem list_sort2 {a p0 p1:Addr}{x y:Int}{t u:Tok}{r0 r1:List Value}{m0 m1:Nat}{n:Nat}{P:Fin→Shared→Prop}(ho:s.heap.get? a=some (seqObj "list" [Value.ref p0,Value.ref p1].toArray n))
  {o0 o1:Obj} (h0:s.heap.get? p0=some o0) (c0:o0.cls=.type "tuple") (d0:o0.data=.seq (Value.int x t::r0).toArray m0) (h1:s.heap.get? p1=some o1) (c1:o1.cls=.type "tuple") (d1:o1.data=.seq (Value.int y u::r1).toArray m1) (ne:x≠y) (n0:p0≠a) (n1:p1≠a)
  (h:∀out:Array Value,out.toList=(if y < x then [Value.ref p1,Value.ref p0] else [Value.ref p0,Value.ref p1])→P (.done (.ret .none)) {s with heap:=sortedHeap s.heap a [Value.ref p0,Value.ref p1] out}):
  wpAny (model prog w) A (Builtin.«list.sort» ⟨[.ref a],[]⟩) P E s:=by
 rw [list_sort_plain]
 have ha:a < s.heap.objs.size:=Heap.lt_size ho
 refine wpAny_bind (listItems_at ho rfl ?_)
 refine wpAny_bind (listUpdate_at ho rfl ?_ (hsz:=by show 2≤sizeLine;rw [sizeLine_eq];decide))
 obtain ⟨e1,ho1⟩:∃e1,(s.heap.update a (Obj.mapSeq fun _=> #[])).get? a=some (seqObj "list" #[] e1):=⟨_,get?_update_seq ho (fun _=> #[])⟩
 refine wpAny_bind (seqEpoch_at ho1 rfl ?_)
 refine wpAny_bind (wpAny_newTuple ?_ (by show 2≤sizeLine;rw [sizeLine_eq];decide))
 refine wpAny_bind (wpAny_newList ?_)
 refine wpAny_holding ?_
 have old:∀b o,b≠a→s.heap.get? b=some o→(((s.heap.update a (Obj.mapSeq fun _=> #[])).push (seqObj "tuple" [Value.ref p0,Value.ref p1].toArray 0)).push (seqObj "list" #[] 0)).get? b=some o:=fun b o nb e=>by
  refine Heap.get?_push_of_some _ (Heap.get?_push_of_some _ ?_)
  rw [Heap.get?_update_ne _ _ _ _ nb]
  exact e
 have ho6:(((s.heap.update a (Obj.mapSeq fun _=> #[])).push (seqObj "tuple" [Value.ref p0,Value.ref p1].toArray 0)).push (seqObj "list" #[] 0)).get? a=some (seqObj "list" #[] e1):=Heap.get?_push_of_some _ (Heap.get?_push_of_some _ ho1)
 have h06:=old _ _ n0 h0
 have h16:=old _ _ n1 h1
 show wpAny (model prog w) A _ P E {s with heap:=((s.heap.update a (Obj.mapSeq fun _=> #[])).push (seqObj "tuple" [Value.ref p0,Value.ref p1].toArray 0)).push (seqObj "list" #[] 0)}
 dsimp only
 have hn2:¬ #[Value.ref p0,Value.ref p1].size < 2:=show¬2 < 2 by decide
 rw [if_neg hn2,if_neg hn2]
 refine wpAny_bind (kat_kind (fs:=[Value.int x t,Value.int y u]) (T:=.type "int") (.cons h06 c0 d0 rfl (.cons h16 c1 d1 rfl .nil)) (show 0 < 2 by decide) (fun v hv=>?_) (by decide) ?_)
 ·simp only [List.mem_cons,List.not_mem_nil,or_false] at hv
  rcases hv with rfl | rfl <;> exact .now
 refine wpAny_bind (wpAny_mono (kat_run (Q:=fun st' s'=>s'=({s with heap:=((s.heap.update a (Obj.mapSeq fun _=> #[])).push (seqObj "tuple" [Value.ref p0,Value.ref p1].toArray 0)).push (seqObj "list" #[] 0)}:Shared)∧∃p:Array Nat,arrOf st'=p.map (kas_item ([Value.ref p0,Value.ref p1].toArray.zip [Value.ref p0,Value.ref p1].toArray))∧failedOf st'=none∧p=(if y < x then #[1,0] else #[0,1]))
  (G:=fun p s'=>s'=({s with heap:=((s.heap.update a (Obj.mapSeq fun _=> #[])).push (seqObj "tuple" [Value.ref p0,Value.ref p1].toArray 0)).push (seqObj "list" #[] 0)}:Shared)∧p=(if y < x then #[1,0] else #[0,1])) (vs:=[Value.ref p0,Value.ref p1]) rfl (show 2≤2 by decide) (show 2 < 64 by decide) (fun p' st' s' a1 a2 a3 a4=>⟨a4.1,p',a2,a3,a4.2⟩) (zmx ?_ ?_)) ?_ fun _ _ e=>e)
 ·show wpAny (model prog w) A (keyLt' (tuples' true) (.ref p1) (.ref p0)) _ _ _
  refine kat_lt h16 d1 h06 d0 ?_
  show KatLex prog w A true _ _ ((Value.int y u,Value.int x t)::(r1.zip r0)) 0 _
  refine kat_cons (wpAny_eqBool_int ?_)
  have e0:(decide (y=x))=false:=decide_eq_false (Ne.symm ne)
  first
   | rw [e0]
   | (rw [show (y==x)=false from by simpa using Ne.symm ne])
  refine kat_no (oneLt_int ?_)
  by_cases hy:y < x
  ·rw [decide_eq_true hy]
   exact (if_pos rfl).mpr ⟨rfl,(if_pos hy).symm⟩
  ·rw [decide_eq_false hy]
   exact (if_neg (by decide)).mpr ⟨rfl,(if_neg hy).symm⟩
 ·intro i j C C' s' hc h
  exact wpAny_mono h hc fun _ _ x=>x
 ·rintro ⟨⟨⟩,st'⟩ s' ⟨rfl,p,har,hf,hp⟩
  dsimp only
  refine wpAny_bind (seqEpoch_at ho6 rfl ?_)
  have har2:(arrOf st').map (·.2)=(if y < x then [Value.ref p1,Value.ref p0] else [Value.ref p0,Value.ref p1]).toArray:=by
   rw [kat_snds (ks:=[Value.ref p0,Value.ref p1]) (vs:=[Value.ref p0,Value.ref p1]) rfl har,hp]
   by_cases hy:y < x
   ·rw [if_pos hy,if_pos hy];rfl
   ·rw [if_neg hy,if_neg hy];rfl
  refine wpAny_bind (listUpdate_at ho6 rfl ?_ (hsz2:=by rw [har2];show (if y < x then [Value.ref p1,Value.ref p0] else [Value.ref p0,Value.ref p1]).length≤_;split <;> (show 2≤sizeLine+1;rw [sizeLine_eq];decide)))
  rw [hf]
  simp only [bne_self_eq_false,Bool.false_eq_true,if_false]
  exact wpAny_pure (h _ (by rw [har2]))
end
end Ps
namespace L2
open PySem PySem.Spec PyProof.Rows
section
variable {X:Cx}
theorem ze1:zaW X (.builtin "sorted") (fun xs H Q=>∃(l p0 p1:Addr) (x y:Int) (w0 w1:List V),xs=[.ref l]∧H l=some (.lst [.ref p0,.ref p1])∧H p0=some (.tup (.int x::w0))∧H p1=some (.tup (.int y::w1))∧x≠y∧
  ∀r,H r=none→Q (.ref r) (upd H r (.lst (if y < x then [.ref p1,.ref p0] else [.ref p0,.ref p1])))):=by
 intro pins s σ H xs us Q I r h
 obtain ⟨l,p0,p1,x,y,w0,w1,rfl,hl,h0,h1,ne,q⟩:=h
 obtain ⟨u,rfl,ru⟩:=vals1 r
 cases (show u=Value.ref l from ru)
 obtain ⟨its,rv,pl,hz⟩:=I.list (SqL.of hl)
 obtain ⟨i0,v0,⟨o0,g0,c0,m0,d0⟩,_⟩:=I.tuple (SqT.of h0)
 obtain ⟨i1,v1,⟨o1,g1,c1,m1,d1⟩,_⟩:=I.tuple (SqT.of h1)
 cases v0 with
 | @cons _ a0 _ r0 ra0 rr0=>
 cases v1 with
 | @cons _ a1 _ r1 ra1 rr1=>
 obtain ⟨t0,rfl⟩:∃t,a0=Value.int x t:=ra0
 obtain ⟨t1,rfl⟩:∃t,a1=Value.int y t:=ra1
 cases rv with
 | @cons _ b0 _ _ rb0 rv=>
 cases rv with
 | @cons _ b1 _ _ rb1 rv=>
 cases rv with
 | nil=>
 cases (show b0=Value.ref p0 from rb0)
 cases (show b1=Value.ref p1 from rb1)
 refine Calls.call_function_entry kind_sorted plain_sorted entry_sorted (args_sorted1 _) ?_
 unfold Builtin.«sorted»
 refine wpAny_bind (m:=checkCount "sorted" 1 1 _) (wpAny_pure ?_)
 refine wpAny_bind (collect_list pl.isList ?_ (by show 2≤_;rw [sizeLine_eq];decide))
 refine wpAny_bind (wpAny_newList ?_ (by show 2≤_;rw [sizeLine_eq];decide))
 have hsz:((s.heap.push (seqObj "list" #[] 0)).update s.heap.objs.size (Obj.mapSeq (· ++ [Value.ref p0,Value.ref p1].toArray))).objs.size=s.heap.objs.size+1:=by
  rw [Heap.size_update,size_push']
 have hk:∀b o,s.heap.get? b=some o→((s.heap.push (seqObj "list" #[] 0)).update s.heap.objs.size (Obj.mapSeq (· ++ [Value.ref p0,Value.ref p1].toArray))).get? b=some o:=fun b o q=>by
  have hlt:b < s.heap.objs.size:=Heap.lt_size q
  rw [Heap.get?_update_ne _ _ _ _ (Nat.ne_of_lt hlt),Heap.get?_push_ne _ _ _ (Nat.ne_of_lt hlt)]
  exact q
 generalize ((s.heap.push (seqObj "list" #[] 0)).update s.heap.objs.size (Obj.mapSeq (· ++ [Value.ref p0,Value.ref p1].toArray)))=h' at hsz hk
 have hoL:(h'.push (seqObj "list" [Value.ref p0,Value.ref p1].toArray 0)).get? h'.objs.size=some (seqObj "list" [Value.ref p0,Value.ref p1].toArray 0):=Heap.get?_push_size _ rfl
 have k0:=Heap.get?_push_of_some (seqObj "list" [Value.ref p0,Value.ref p1].toArray 0) (hk _ _ g0)
 have k1:=Heap.get?_push_of_some (seqObj "list" [Value.ref p0,Value.ref p1].toArray 0) (hk _ _ g1)
 refine wpAny_bind (wpAny_holding (wpAny_call_entry slot_list_sort ⟨_,hoL,rfl⟩ entry_list_sort (Ps.list_sort2 hoL k0 c0 d0 k1 c1 d1 ne (Nat.ne_of_lt (Heap.lt_size (hk _ _ g0))) (Nat.ne_of_lt (Heap.lt_size (hk _ _ g1))) fun out ho=>⟨_,rfl,?_⟩) (args_list_sort _)))
 refine wpAny_pure ⟨_,rfl,?_⟩
 have sz:s.heap.objs.size≤h'.objs.size:=by omega
 have kk:∀b u,s.heap.get? b=some u→(sortedHeap (h'.push (seqObj "list" [Value.ref p0,Value.ref p1].toArray 0)) h'.objs.size [Value.ref p0,Value.ref p1] out).get? b=some u:=fun b u e=>by
  have e1:=hk b u e
  have lt:=Heap.lt_size e1
  rw [sortedHeap_old (Nat.ne_of_lt lt) (by rw [size_push'];exact Nat.lt_succ_of_lt lt)]
  exact Heap.get?_push_of_some _ e1
 obtain ⟨e,he⟩:=sortedHeap_at (out:=out) hoL
 have hn:H h'.objs.size=none:=I.hok.fresh sz
 refine ⟨.ref h'.objs.size,_,I.laid (o:=.lst (if y < x then [.ref p1,.ref p0] else [.ref p0,.ref p1])) kk sz ⟨?_,out.toList,e,?_,he⟩,rfl,q _ hn⟩
 ·split <;> (show 2≤sizeLine;rw [sizeLine_eq];decide)
 ·rw [ho]
  split
  ·exact .cons rfl (.cons rfl .nil)
  ·exact .cons rfl (.cons rfl .nil)
end
end L2
namespace Pv
open PySem L2
abbrev zbC:Stmt:=top 82
theorem zac:zm ["row","keys","beneath","sides","node","paper","pairs"] ["row"] (zg zbC):=⟨rfl,rfl,rfl,by decide+kernel,rfl,by decide+kernel,by decide+kernel⟩
def zgR (CC:Addr):Sp:=fun vs H Q E=>∃(row:Addr),vs=[.ref row]∧RowV H row∧Cl CC E∧∀H',Frm [row] H H'→Q (.bl true) H'
theorem zi5 {t k:Int}{cs:List (Int ×Th)}(ks:Keys t k)(h1:zC cs (zk (lowT k))=some (lowT k))(h2:zC cs (zk (midT t (lO t k (lowT k)) (rO t k (lowT k)) 2))=some (midT t (lO t k (lowT k)) (rO t k (lowT k)) 2)):
  Two cs (zk (midT t (lO t k (lowT k)) (rO t k (lowT k)) 2)) (zk (lowT k)) ⟨.int t,.str "mid",lO t k (lowT k),rO t k (lowT k),2⟩ ⟨.int k,.str "low",0,0,1⟩:=by
 obtain ⟨l0,l1,r0,r1⟩:=zep t k (lowT k)
 obtain ⟨t0,t1,k0,k1,ne⟩:=ks
 have sp:=zW (midT t (lO t k (lowT k)) (rO t k (lowT k)) 2)
 have sb:=zW (lowT k)
 exact ⟨by omega,by omega,zbV (nd:=⟨.int t,.str "mid",lO t k (lowT k),rO t k (lowT k),2⟩) h2 (show NodeOk (.int t) (.str "mid") (lO t k (lowT k)) (rO t k (lowT k)) 2 from zgz l0 r0 (by decide) (by decide)) (by show (2:Int) < 301;decide),
  fun m hm=>zbV (nd:=⟨.int k,.str "low",0,0,1⟩) h1 (show NodeOk (.int k) (.str "low") 0 0 1 from ⟨(fun z=>by cases z),(fun z=>by cases z),by decide,by decide,by decide,by decide⟩) hm,zak (by omega) (by omega),zak (by omega) (by omega),rfl,rfl,rfl,rfl⟩
def prs (t k:Int):List Th:=if k < t then [zab (.int k,.str "low"),zab (.int t,.str "mid")] else [zab (.int t,.str "mid"),zab (.int k,.str "low")]
def pr0 (t k:Int):Th:=if k < t then zab (.int k,.str "low") else zab (.int t,.str "mid")
theorem zjb {t k:Int}{cs:List (Int ×Th)}(ks:Keys t k)(h1:zC cs (zk (lowT k))=some (lowT k))(h2:zC cs (zk (midT t (lO t k (lowT k)) (rO t k (lowT k)) 2))=some (midT t (lO t k (lowT k)) (rO t k (lowT k)) 2)):
  Ans cs (zk (midT t (lO t k (lowT k)) (rO t k (lowT k)) 2)) (.str .non .non) (.ok (.ls (prs t k)))∧Ans cs (zk (midT t (lO t k (lowT k)) (rO t k (lowT k)) 2)) (.nth 0) (.ok (.th (pr0 t k)))∧
  Ans cs (zk (midT t (lO t k (lowT k)) (rO t k (lowT k)) 2)) (.find (.int k)) (.ok (.th (.str "low")))∧Ans cs (zk (lowT k)) (.find (.int k)) (.ok (.th (.str "low"))):=by
 have w:=zi5 ks h1 h2
 obtain ⟨t0,t1,k0,k1,ne⟩:=ks
 by_cases hk:k < t
 ·obtain ⟨a1,a2⟩:=w.left (show lO t k (lowT k)=_ from if_pos hk) (show rO t k (lowT k)=_ from if_pos hk)
  obtain ⟨a3,a4⟩:=w.find (ne_i (by omega)) (by
   show (if zu (.int t) (.int k)=true then rO t k (lowT k) else lO t k (lowT k))=_
   rw [zcO,decide_eq_false (by omega),if_neg (by decide)]
   exact if_pos hk)
  exact ⟨by unfold prs;rw [if_pos hk];exact a1,by unfold pr0;rw [if_pos hk];exact a2,a3,a4⟩
 ·obtain ⟨a1,a2⟩:=w.right (show lO t k (lowT k)=_ from if_neg hk) (show rO t k (lowT k)=_ from if_neg hk)
  obtain ⟨a3,a4⟩:=w.find (ne_i (by omega)) (by
   show (if zu (.int t) (.int k)=true then rO t k (lowT k) else lO t k (lowT k))=_
   rw [zcO,decide_eq_true (by omega),if_pos rfl]
   exact if_neg hk)
  exact ⟨by unfold prs;rw [if_neg hk];exact a1,by unfold pr0;rw [if_neg hk];exact a2,a3,a4⟩
seal PE PS PSs PT PA PI PTs PW PG PGs PO
section
variable {P:Program}{w:World}{K:PySem.W.Frag}{mg:Str→Option Value}{base:Heap}{cl:Kd→Addr}{CC CN CB:Addr}
theorem zim (D:Dfn K mg "_law_is_good" zbC ["row"]) (F_law_take:Fn P w K mg base "_law_take" 1 ["row","many"] zcF) (F_above:Fn P w K mg base "above" 21 ["key","other"] zeV) (F_seal:Fn P w K mg base "seal" 13 ["thing"] zcf) (F_checked:FnX P w K mg base "checked" 26 ["root","ask","paper"] (zgG cl CC CN CB))
  (K_Find:Mkr P w K mg base "Find" (cl .fi) 1 ["self","key"] (spI1 (cl .fi) "key")) (K_Stretch:Mkr P w K mg base "Stretch" (cl .st) 1 ["self","low","high"] (spI2 (cl .st) "low" "high")) (K_Nth:Mkr P w K mg base "Nth" (cl .nt) 1 ["self","number"] (spI1 (cl .nt) "number")) (m_int:mg "int" =none) (m_sorted:mg "sorted" =none):FnX P w K mg base "_law_is_good" 28 ["row"] (zgR CC):=by
 refine D.okX (k:=27) zac (fun vs H Q E h=>?_) (fun f cdv A outer s H vs Q E hr h=>?_)
 ·obtain ⟨row,rfl,_⟩:=h;rfl
 obtain ⟨row,rfl,R0,clE,q⟩:=h
 refine ⟨_,(zc (zq (i:=1) zac.nd rfl (Or.inl rfl) (zL (za (zw F_law_take hr (by omega) (by rfl) (za (pv 0) (za zd zb))) zb)))
 (zc (zao (zdp PySem.F.plainAttrs_list PySem.F.slot_list_append PySem.F.type_list_append zaP (pv 1) (za (zA zT (zA zT (zz zI (pv 1) zd (fun _ _=>rfl)) zd) (zw F_law_take hr (by omega) (by rfl) (za (pv 0) (za zd zb)))) zb)))
 (zc (zD (zQ (zw F_above hr (by omega) (by rfl) (za (zz zI (pv 1) zd (fun _ _=>rfl)) (za (zz zI (pv 1) zd (fun _ _=>rfl)) zb))))
 (zf (zao (zgA PySem.F.plainAttrs_list PySem.F.slot_list_reverse PySem.F.type_list_reverse zeb (pv 1))))
 zr)
 (zc (zq (i:=2) zac.nd rfl (Or.inl rfl) (zP (za (zz zI (pv 1) zd (fun _ _=>rfl)) (za z7 (za zd (za zd (za zd zb)))))))
 (zc (zq (i:=3) zac.nd rfl (Or.inl rfl) (zz zI (zL (za (zP (za zd (za (zw F_seal hr (by omega) (by rfl) (za (pv 2) zb)) zb))) (za (zP (za (zw F_seal hr (by omega) (by rfl) (za (pv 2) zb)) (za zd zb))) zb))) (zde zda (by rfl) m_int (by rfl) (za (zS zek (zz zI (pv 1) zd (fun _ _=>rfl)) (zz zI (pv 1) zd (fun _ _=>rfl)) (zt _)) zb)) (fun _ _=>rfl)))
 (zc (zq (i:=4) zac.nd rfl (Or.inl rfl) (zP (za (zz zI (pv 1) zd (fun _ _=>rfl)) (za z7 (za (zz zH (pv 3) zd (fun _ _=>rfl)) (za (zz zH (pv 3) zd (fun _ _=>rfl)) (za zd zb)))))))
 (zc (zq (i:=5) zac.nd rfl (Or.inl rfl) (zL (za (pv 2) (za (pv 4) zb))))
 (zc (zq (i:=6) zac.nd rfl (Or.inl rfl) (zF (ze1) (by rfl) m_sorted (by rfl) (za (zL (za (zP (za (zz zI (pv 1) zd (fun _ _=>rfl)) (za z7 zb))) (za (zP (za (zz zI (pv 1) zd (fun _ _=>rfl)) (za z7 zb))) zb))) zb)))
 (zc (zD (PW.pt (zcE (zx (zjX hr) (zO F_checked hr (by omega) (by rfl) zE (za (zw F_seal hr (by omega) (by rfl) (za (pv 4) zb)) (za (zah K_Stretch hr (by omega) (by rfl) (za zJ (za zJ zb))) (za (pv 5) zb)))) (pv 6) (zt _)) (zbJ (zx (zb6 hr) (zO F_checked hr (by omega) (by rfl) zE (za (zw F_seal hr (by omega) (by rfl) (za (pv 4) zb)) (za (zah K_Nth hr (by omega) (by rfl) (za zd zb)) (za (pv 5) zb)))) (zz zI (pv 6) zd (fun _ _=>rfl)) (zt _)))))
 (zf (zl zal))
 zr)
 (zf (zl (zbz (zS (zdL hr) (zO F_checked hr (by omega) (by rfl) zE (za (zw F_seal hr (by omega) (by rfl) (za (pv 4) zb)) (za (zah K_Find hr (by omega) (by rfl) (za (zz zI (pv 1) zd (fun _ _=>rfl)) zb)) (za (pv 5) zb)))) z7 (zt _)) (zbo (zS (zdL hr) (zO F_checked hr (by omega) (by rfl) zE (za (zw F_seal hr (by omega) (by rfl) (za (pv 2) zb)) (za (zah K_Find hr (by omega) (by rfl) (za (zz zI (pv 1) zd (fun _ _=>rfl)) zb)) (za (pv 5) zb)))) z7 (zt _))))))))))))))),?_⟩
 refine ⟨_,rfl,row,_,rfl,R0,(show (0:Int) < 50 by decide),(by decide+kernel),fun x H1 x0 x1 f1 R1=>?_⟩
 refine ⟨szl (show 1≤1000 by decide),fun pk hpk=>?_⟩
 have R2:=R1.new (o:=.lst [.int x]) hpk
 have F2:Frm [row] H1 (upd H1 pk (.lst [.int x])):=Frm.new hpk
 have ek:upd H1 pk (.lst [.int x]) pk=some (.lst [.int x]):=ze
 have nk:=R1.ne hpk
 generalize upd H1 pk (.lst [.int x])=H2 at R2 F2 ek
 refine ⟨_,rfl,.inl ⟨rfl,_,SqL.of ek⟩,_,rfl,pk,_,_,_,rfl,rfl,SqL.of ek,rfl,_,_,rfl,rfl,_,rfl,row,_,rfl,R2,(show (0:Int) < 50 by decide),(by decide+kernel),fun y H3 y0 y1 f3 R3=>⟨_,_,rfl,rfl,pk,[.int x],_,rfl,rfl,f3 _ _ (not1 nk) ek,Nat.lt_of_lt_of_le (show 1 < 1000 by decide) (szl (Nat.le_refl _)),?_⟩⟩
 have hx:x+2+y≤150:=by omega
 have hx2:x+2≤x+2+y:=by omega
 have hx0:0≤x+2+y:=by omega
 have hk0:H pk=none:=by
  cases z:H pk with
  | none=>rfl
  | some o=>
   have:=f1 _ _ (not1 nk) z
   rw [hpk] at this;cases this
 have R4:RowV (upd H3 pk (.lst ([.int x]++ [.int (x+2+y)]))) row:=by
  obtain ⟨a,m,e,g⟩:=R3
  exact ⟨a,m,by rw [zj (Ne.symm nk)];exact e,g⟩
 have F4:Frm [row] H (upd H3 pk (.lst ([.int x]++ [.int (x+2+y)]))):=fun b o n e=>by
  rw [zj (zh e hk0)]
  exact ((f1.trans F2).trans f3) b o n e
 have ek4:upd H3 pk (.lst ([.int x]++ [.int (x+2+y)])) pk=some (.lst [.int x,.int (x+2+y)]):=ze
 generalize upd H3 pk (.lst ([.int x]++ [.int (x+2+y)]))=H4 at R4 F4 ek4
 generalize x+2+y=z at hx hx2 hx0 ek4
 dsimp only
 refine zaY (fun σ H'=>∃t k,σ=[some (.ref row),some (.ref pk),none,none,none,none,none]∧Keys t k∧H' pk=some (.lst [.int t,.int k])∧Frm [row] H H') (fun N kN=>?_) ?_
 ·have gx:Good (.int x):=(sm_i (i:=x) (by omega) (by omega)).g.good
  have gz:Good (.int z):=(sm_i (i:=z) (by omega) (by omega)).g.good
  refine ⟨_,rfl,pk,_,_,_,rfl,rfl,SqL.of ek4,rfl,_,rfl,pk,_,_,_,rfl,rfl,SqL.of ek4,rfl,.int z,.int x,_,_,rfl,.int _,.int _,gz,gx,fun H5 s5=>⟨_,rfl,?_⟩⟩
  have ek5:=s5 _ _ ek4
  cases zaM (.int z) (.int x) with
  | false=>exact ifF rfl (kN _ _ ⟨x,z,rfl,⟨by omega,by omega,by omega,by omega,.inl (by omega)⟩,ek5,F4.trans (Frm.of s5)⟩)
  | true=>
   refine ifT rfl ⟨_,rfl,.inl ⟨rfl,_,SqL.of ek5⟩,pk,_,rfl,rfl,ek5,kN _ _ ⟨z,x,rfl,⟨by omega,by omega,by omega,by omega,.inr (by omega)⟩,ze,?_⟩⟩
   intro b o n e
   rw [zj (zh e hk0)]
   exact s5 _ _ (F4 b o n e)
 clear ek4 R4 F4 hx hx2 hx0
 rintro σ H5 ⟨t,k,rfl,ks,ek5,F5⟩
 have k0:=ks.k0
 have k1:=ks.k1
 have t0:=ks.t0
 have t1:=ks.t1
 refine ⟨_,rfl,pk,_,_,_,rfl,rfl,SqL.of ek5,rfl,szl (show 5≤1000 by decide),fun pb hpb=>?_⟩
 have rb6:Rep (upd H5 pb (.tup [.int k,.str "low",.int 0,.int 0,.int 1])) (lowT k) (.ref pb):=(RepL.cons (.int k) (.cons (.str _) (.cons (.int 0) (.cons (.int 0) (.cons (.int 1) .nil))))).new hpb
 have s6:=zo (o:=.tup [.int k,.str "low",.int 0,.int 0,.int 1]) (Same.refl H5) hpb
 generalize upd H5 pb (.tup [.int k,.str "low",.int 0,.int 0,.int 1])=H6 at rb6 s6
 have g:=zkU k0 (show k≤200 by omega)
 have gd:=g.dp
 have gn:=g.nd
 dsimp only [zc3]
 refine zaY (fun σ H'=>∃ps,σ=[some (.ref row),some (.ref pk),some (.ref pb),some (.ref ps),none,none,none]∧H' ps=some (.tup [.int (lO t k (lowT k)),.int (rO t k (lowT k))])∧Same H6 H') (fun N kN=>?_) ?_
 ·refine ⟨_,rfl,lowT k,_,rfl,rb6,g.wf,by omega,by omega,fun H8 s8=>⟨szl (show 2≤1000 by decide),fun pa hpa=>?_⟩⟩
  have s9:=zo (o:=.tup [.int 0,.int (zk (lowT k))]) s8 hpa
  have ea:upd H8 pa (.tup [.int 0,.int (zk (lowT k))]) pa=some (.tup [.int 0,.int (zk (lowT k))]):=ze
  generalize upd H8 pa (.tup [.int 0,.int (zk (lowT k))])=H9 at s9 ea
  refine ⟨_,rfl,lowT k,_,rfl,rb6.keep (Same.tups s9),g.wf,by omega,by omega,fun H10 s10=>⟨szl (show 2≤1000 by decide),fun pc hpc=>?_⟩⟩
  have s11:=zo (o:=.tup [.int (zk (lowT k)),.int 0]) s10 hpc
  have ec:upd H10 pc (.tup [.int (zk (lowT k)),.int 0]) pc=some (.tup [.int (zk (lowT k)),.int 0]):=ze
  generalize upd H10 pc (.tup [.int (zk (lowT k)),.int 0])=H11 at s11 ec
  refine ⟨szl (show 2≤1000 by decide),fun pl hpl=>?_⟩
  have s12:=zo (o:=.lst [.ref pa,.ref pc]) (Same.refl H11) hpl
  have el:upd H11 pl (.lst [.ref pa,.ref pc]) pl=some (.lst [.ref pa,.ref pc]):=ze
  generalize upd H11 pl (.lst [.ref pa,.ref pc])=H12 at s12 el
  have sm:Same H6 H12:=fun c o z=>s12 c o (s11 c o (s9 c o z))
  have ek12:=sm _ _ (s6 _ _ ek5)
  refine ⟨_,rfl,pk,_,_,_,rfl,rfl,SqL.of ek12,rfl,_,rfl,pk,_,_,_,rfl,rfl,SqL.of ek12,rfl,_,_,rfl,rfl,.inr ⟨_,rfl,?_⟩⟩
  by_cases hk:k < t
  ·refine ⟨pl,_,1,.ref pc,rfl,(by rw [decide_eq_true hk];rfl),SqL.of el,rfl,kN _ _ ⟨pc,rfl,?_,sm⟩⟩
   unfold lO rO;rw [if_pos hk,if_pos hk];exact s12 _ _ ec
  ·refine ⟨pl,_,0,.ref pa,rfl,(by rw [decide_eq_false hk];rfl),SqL.of el,rfl,kN _ _ ⟨pa,rfl,?_,sm⟩⟩
   unfold lO rO;rw [if_neg hk,if_neg hk];exact s12 _ _ (s11 _ _ ea)
 rintro σ H8 ⟨ps,rfl,es',s8⟩
 obtain ⟨l0,l1,r0,r1⟩:=zep t k (lowT k)
 have s58:Same H5 H8:=fun c o z=>s8 c o (s6 c o z)
 have ek8:=s58 _ _ ek5
 refine ⟨_,rfl,pk,_,_,_,rfl,rfl,SqL.of ek8,rfl,_,rfl,ps,_,_,_,rfl,rfl,SqT.of es',rfl,_,rfl,ps,_,_,_,rfl,rfl,SqT.of es',rfl,szl (show 5≤1000 by decide),fun pn hpn=>?_⟩
 have rn9:Rep (upd H8 pn (.tup [.int t,.str "mid",.int (lO t k (lowT k)),.int (rO t k (lowT k)),.int 2])) (midT t (lO t k (lowT k)) (rO t k (lowT k)) 2) (.ref pn):=(RepL.cons (.int t) (.cons (.str _) (.cons (.int _) (.cons (.int _) (.cons (.int 2) .nil))))).new hpn
 have s9:=zo (o:=.tup [.int t,.str "mid",.int (lO t k (lowT k)),.int (rO t k (lowT k)),.int 2]) (Same.refl H8) hpn
 generalize upd H8 pn (.tup [.int t,.str "mid",.int (lO t k (lowT k)),.int (rO t k (lowT k)),.int 2])=H9 at rn9 s9
 refine ⟨_,rfl,_,rfl,szl (show 2≤1000 by decide),fun pp hpp=>?_⟩
 have s10:=zo (o:=.lst [.ref pb,.ref pn]) (Same.refl H9) hpp
 have ep:upd H9 pp (.lst [.ref pb,.ref pn]) pp=some (.lst [.ref pb,.ref pn]):=ze
 generalize upd H9 pp (.lst [.ref pb,.ref pn])=H10 at s10 ep
 have s510:Same H5 H10:=fun c o z=>s10 c o (s9 c o (s58 c o z))
 have ek10:=s510 _ _ ek5
 have rb10:Rep H10 (lowT k) (.ref pb):=rb6.keep (Same.tups fun c o z=>s10 c o (s9 c o (s8 c o z)))
 have rn10:=rn9.keep (Same.tups s10)
 refine ⟨_,rfl,pk,_,_,_,rfl,rfl,SqL.of ek10,rfl,szl (show 2≤1000 by decide),fun q0 hq0=>?_⟩
 have s11:=zo (o:=.tup [.int k,.str "low"]) (Same.refl H10) hq0
 have e11:upd H10 q0 (.tup [.int k,.str "low"]) q0=some (.tup [.int k,.str "low"]):=ze
 generalize upd H10 q0 (.tup [.int k,.str "low"])=H11 at s11 e11
 refine ⟨_,rfl,pk,_,_,_,rfl,rfl,SqL.of (s11 _ _ ek10),rfl,szl (show 2≤1000 by decide),fun q1 hq1=>?_⟩
 have s12:=zo (o:=.tup [.int t,.str "mid"]) (Same.refl H11) hq1
 have e12:upd H11 q1 (.tup [.int t,.str "mid"]) q1=some (.tup [.int t,.str "mid"]):=ze
 generalize upd H11 q1 (.tup [.int t,.str "mid"])=H12 at s12 e12
 refine ⟨szl (show 2≤1000 by decide),fun ql hql=>?_⟩
 have s13:=zo (o:=.lst [.ref q0,.ref q1]) (Same.refl H12) hql
 have e13:upd H12 ql (.lst [.ref q0,.ref q1]) ql=some (.lst [.ref q0,.ref q1]):=ze
 generalize upd H12 ql (.lst [.ref q0,.ref q1])=H13 at s13 e13
 have e0:=s13 _ _ (s12 _ _ e11)
 have e1:=s13 _ _ e12
 refine ⟨ql,q0,q1,k,t,_,_,rfl,e13,e0,e1,(by have:=ks.ne;omega),fun pr hpr=>?_⟩
 obtain ⟨v0,v1,exs,rps,rp0⟩:∃v0 v1,(if t < k then [V.ref q1,V.ref q0] else [V.ref q0,V.ref q1])=[v0,v1]∧RepL H13 (prs t k) [v0,v1]∧Rep H13 (pr0 t k) v0:=by
  have a0:Rep H13 (zab (.int k,.str "low")) (.ref q0):=za7 e0 (.cons (.int _) (.cons (.str _) .nil))
  have a1:Rep H13 (zab (.int t,.str "mid")) (.ref q1):=za7 e1 (.cons (.int _) (.cons (.str _) .nil))
  have ne:=ks.ne
  unfold prs pr0
  by_cases hk:k < t
  ·rw [if_pos hk,if_pos hk,if_neg (by omega)]
   exact ⟨_,_,rfl,.cons a0 (.cons a1 .nil),a0⟩
  ·rw [if_neg hk,if_neg hk,if_pos (by omega)]
   exact ⟨_,_,rfl,.cons a1 (.cons a0 .nil),a1⟩
 rw [exs]
 have s14:=zo (o:=.lst [v0,v1]) (Same.refl H13) hpr
 have e14:upd H13 pr (.lst [v0,v1]) pr=some (.lst [v0,v1]):=ze
 generalize upd H13 pr (.lst [v0,v1])=H14 at s14 e14
 have s1014:Same H10 H14:=fun c o z=>s14 c o (s13 c o (s12 c o (s11 c o z)))
 have F14:Frm [row] H H14:=F5.trans (Frm.of fun c o z=>s1014 c o (s510 c o z))
 have rps14:=rps.keep (Same.tups s14)
 have rp014:=rp0.keep (Same.tups s14)
 have rb14:=rb10.keep (Same.tups s1014)
 have rn14:=rn10.keep (Same.tups s1014)
 have ep14:=s1014 _ _ ep
 have ek14:=s1014 _ _ ek10
 have gt:G5 (midT t (lO t k (lowT k)) (rO t k (lowT k)) 2):=zi3 t0 (by omega) l0 l1 r0 r1 (by decide) (by decide)
 have gd2:=gt.dp
 have gn2:=gt.nd
 have g5:∀u∈ [lowT k,midT t (lO t k (lowT k)) (rO t k (lowT k)) 2],G5 u:=fun u hu=>by
  simp only [List.mem_cons,List.not_mem_nil,or_false] at hu
  rcases hu with rfl | rfl
  ·exact g
  ·exact gt
 have ans:Held (zZ [lowT k,midT t (lO t k (lowT k)) (rO t k (lowT k)) 2]) [lowT k,midT t (lO t k (lowT k)) (rO t k (lowT k)) 2]→_:=fun held=>zjb ks (held (lowT k) (by simp)) (held (midT t (lO t k (lowT k)) (rO t k (lowT k)) 2) (by simp))
 refine ⟨_,rfl,midT t (lO t k (lowT k)) (rO t k (lowT k)) 2,_,rfl,rn14,gt.wf,by omega,by omega,fun H15 s15=>?_⟩
 refine fun b1 d1 hb1 hd1 _=>mkQ2 hb1 hd1 fun H16 s16 ⟨d1,eb1⟩=>?_
 have s1416:Same H14 H16:=fun c o z=>s16 c o (s15 c o z)
 refine ⟨_,rfl,b1,pp,_,.str .non .non,_,[lowT k,midT t (lO t k (lowT k)) (rO t k (lowT k)) 2],rfl,⟨d1,_,eb1,_,_,rfl,.non,.non⟩,s1416 _ _ ep14,.cons (rb14.keep (Same.tups s1416)) (.cons (rn14.keep (Same.tups s1416)) .nil),by simp,g5,clE.s,fun held=>⟨_,(ans held).1,fun y v H17 er s17 rv=>?_,fun e H17 er=>(by cases er)⟩⟩
 cases er
 obtain ⟨p',xs',rfl,ep',rp'⟩:=rv
 have s1417:Same H14 H17:=fun c o z=>s17 c o (s1416 c o z)
 refine ⟨_,rfl,p',pr,xs',_,prs t k,prs t k,rfl,rfl,SqL.of ep',SqL.of (s1417 _ _ e14),rp',rps14.keep (Same.tups s1417),?_,_,rfl,?_⟩
 ·intro u hu
  unfold prs at hu
  split at hu <;>
  ·simp only [List.mem_cons,List.not_mem_nil,or_false] at hu
   rcases hu with rfl | rfl <;> (show (1:Nat)≤50;decide)
 refine ifF (by rw [show eqL (prs t k) (prs t k)=true from zaw (.tup (prs t k))];rfl) ?_
 refine ⟨_,rfl,midT t (lO t k (lowT k)) (rO t k (lowT k)) 2,_,rfl,rn14.keep (Same.tups s1417),gt.wf,by omega,by omega,fun H18 s18=>?_⟩
 refine fun b2 d2 hb2 hd2 _=>mkQ1 hb2 hd2 fun H19 s19 ⟨d2,eb2⟩=>?_
 have s1419:Same H14 H19:=fun c o z=>s19 c o (s18 c o (s1417 c o z))
 refine ⟨_,rfl,b2,pp,_,.nth 0,_,[lowT k,midT t (lO t k (lowT k)) (rO t k (lowT k)) 2],rfl,⟨d2,_,eb2,rfl⟩,s1419 _ _ ep14,.cons (rb14.keep (Same.tups s1419)) (.cons (rn14.keep (Same.tups s1419)) .nil),by simp,g5,clE.s,fun held=>⟨_,(ans held).2.1,fun y v H20 er s20 rv=>?_,fun e H20 er=>(by cases er)⟩⟩
 cases er
 have s1420:Same H14 H20:=fun c o z=>s20 c o (s1419 c o z)
 have rv':Rep H20 (pr0 t k) v:=rv
 refine ⟨_,rfl,pr,_,_,_,rfl,rfl,SqL.of (s1420 _ _ e14),rfl,pr0 t k,pr0 t k,rv',rp014.keep (Same.tups s1420),?_,_,rfl,?_⟩
 ·unfold pr0
  split <;> (show (1:Nat)≤50;decide)
 refine ifF (by rw [zaw];rfl) ?_
 refine ⟨_,rfl,midT t (lO t k (lowT k)) (rO t k (lowT k)) 2,_,rfl,rn14.keep (Same.tups s1420),gt.wf,by omega,by omega,fun H21 s21=>?_⟩
 have s1421:Same H14 H21:=fun c o z=>s21 c o (s1420 c o z)
 refine ⟨_,rfl,pk,_,_,_,rfl,rfl,SqL.of (s1421 _ _ ek14),rfl,fun b3 d3 hb3 hd3 _=>mkQ1 hb3 hd3 fun H22 s22 ⟨d3,eb3⟩=>?_⟩
 have s1422:Same H14 H22:=fun c o z=>s22 c o (s1421 c o z)
 refine ⟨_,rfl,b3,pp,_,.find (.int k),_,[lowT k,midT t (lO t k (lowT k)) (rO t k (lowT k)) 2],rfl,⟨d3,_,eb3,_,rfl,.int _⟩,s1422 _ _ ep14,.cons (rb14.keep (Same.tups s1422)) (.cons (rn14.keep (Same.tups s1422)) .nil),by simp,g5,clE.s,fun held=>⟨_,(ans held).2.2.1,fun y v H23 er s23 rv=>?_,fun e H23 er=>(by cases er)⟩⟩
 cases er
 have s1423:Same H14 H23:=fun c o z=>s23 c o (s1422 c o z)
 have rv2:Rep H23 (.str "low") v:=rv
 cases rv2
 refine ⟨.str "low",.str "low",.str _,.str _,(by decide),_,rfl,ifT (by rw [zaw]) ?_⟩
 refine ⟨_,rfl,lowT k,_,rfl,rb14.keep (Same.tups s1423),g.wf,by omega,by omega,fun H24 s24=>?_⟩
 have s1424:Same H14 H24:=fun c o z=>s24 c o (s1423 c o z)
 refine ⟨_,rfl,pk,_,_,_,rfl,rfl,SqL.of (s1424 _ _ ek14),rfl,fun b4 d4 hb4 hd4 _=>mkQ1 hb4 hd4 fun H25 s25 ⟨d4,eb4⟩=>?_⟩
 have s1425:Same H14 H25:=fun c o z=>s25 c o (s1424 c o z)
 refine ⟨_,rfl,b4,pp,_,.find (.int k),_,[lowT k,midT t (lO t k (lowT k)) (rO t k (lowT k)) 2],rfl,⟨d4,_,eb4,_,rfl,.int _⟩,s1425 _ _ ep14,.cons (rb14.keep (Same.tups s1425)) (.cons (rn14.keep (Same.tups s1425)) .nil),by simp,g5,clE.s,fun held=>⟨_,(ans held).2.2.2,fun y v H26 er s26 rv=>?_,fun e H26 er=>(by cases er)⟩⟩
 cases er
 have rv3:Rep H26 (.str "low") v:=rv
 cases rv3
 refine ⟨.str "low",.str "low",.str _,.str _,(by decide),?_⟩
 rw [zaw]
 exact q _ (F14.trans (Frm.of fun c o z=>s26 c o (s1425 c o z)))
end
end Pv
namespace Pv
open PySem L2
abbrev zcN:Stmt:=top 84
theorem zbq:zm ["script","cell","row"] ["script"] (zg zcN):=⟨rfl,rfl,rfl,by decide+kernel,rfl,by decide+kernel,by decide+kernel⟩
theorem SqL.keepS {K:PySem.W.Frag}{H H':Hp}{a:Addr}{xs:List V}(h:SqL K H a xs)(s:Same H H'):SqL K H' a xs:=by
 rcases h with h | h
 ·rcases h with h | ⟨o,h⟩
  ·exact .inl (.inl (s _ _ h))
  ·exact .inl (.inr ⟨o,s _ _ h⟩)
 ·exact .inr h
theorem zfk (ns:List Int)(lo hi:Option Int):∃ms:List Int,cutV (ns.map V.int) lo hi=ms.map V.int∧ms.length≤ns.length:=by
 refine ⟨(ns.drop (HT.sIx ns.length 0 lo)).take (HT.sIx ns.length ns.length hi - HT.sIx ns.length 0 lo),?_,?_⟩
 ·unfold cutV
  rw [List.length_map,List.map_take,List.map_drop]
 ·rw [List.length_take,List.length_drop];omega
theorem zfN {H H1 H2:Hp}{row:Addr}(s:Same H H1)(hr:H row=none)(f:Frm [row] H1 H2):Same H H2:=fun b o e=>f b o (not1 (zh e hr)) (s b o e)
def zja (K:PySem.W.Frag)(CC:Addr):Sp:=fun vs H Q E=>∃(a:Addr) (ns:List Int),vs=[.ref a]∧SqL K H a (ns.map V.int)∧ns.length≤63∧(∀H',Q (.bl true) H')∧Cl CC E
section
variable {P:Program}{w:World}{K:PySem.W.Frag}{mg:Str→Option Value}{base:Heap}{CC:Addr}
theorem zka (D:Dfn K mg "_law_held" zcN ["script"]) (F_law_row:Fn P w K mg base "_law_row" 1 ["cell"] zk3) (F_law_take:Fn P w K mg base "_law_take" 1 ["row","many"] zcF) (F_law_is_bad:Fn P w K mg base "_law_is_bad" 28 ["row","way"] zju) (F_law_is_good:FnX P w K mg base "_law_is_good" 28 ["row"] (zgR CC)) (F_law_ladder:FnX P w K mg base "_law_ladder" 28 ["row"] (zkT CC)):FnX P w K mg base "_law_held" 29 ["script"] (zja K CC):=by
 refine D.okX (k:=28) zbq (fun vs H Q E h=>?_) (fun f cdv A outer s H vs Q E hr h=>?_)
 ·obtain ⟨a,ns,rfl,_⟩:=h;rfl
 obtain ⟨a,ns,rfl,hS,h63,q,cl⟩:=h
 refine ⟨_,(zc (zbm PassesOwn.leaving rfl (zcz (zA zdY (zL (za zd (za zd zb))) (zbP zho (pv 0) zc4 (zbY zd)))) (zX (i:=1) zbq.nd rfl (Or.inl rfl))
 (zc (zq (i:=2) zbq.nd rfl (Or.inl rfl) (zw F_law_row hr (by omega) (by rfl) (za (pv 1) zb)))
 (zf (zD (PW.pt (zcE (zbg (zQ (zw F_law_is_bad hr (by omega) (by rfl) (za (pv 2) (za (zw F_law_take hr (by omega) (by rfl) (za (pv 2) (za zd zb))) zb))))) (zbJ (zbg (zQ (zO F_law_is_good hr (by omega) (by rfl) zE (za (pv 2) zb)))))))
 (zf (zl zal))
 zr))))
 (zc (zbm PassesOwn.leaving rfl (zcz (zA zdY (zL (za zd zb)) (zbP zho (pv 0) zc4 (zbY zd)))) (zX (i:=1) zbq.nd rfl (Or.inl rfl))
 (zf (zD (zbg (zQ (zO F_law_ladder hr (by omega) (by rfl) zE (za (zw F_law_row hr (by omega) (by rfl) (za (pv 1) zb)) zb))))
 (zf (zl zal))
 zr)))
 (zf (zl zal)))),?_⟩
 refine ⟨szl (show 2≤1000 by decide),fun p0 hp0=>?_⟩
 have s0:=zo (o:=.lst [.int 0,.int 1]) (Same.refl H) hp0
 have e0:upd H p0 (.lst [.int 0,.int 1]) p0=some (.lst [.int 0,.int 1]):=ze
 generalize upd H p0 (.lst [.int 0,.int 1])=H0 at s0 e0
 obtain ⟨ms,ems,hms⟩:=zfk ns none (some 40)
 refine ⟨_,rfl,_,rfl,a,_,rfl,Pv.SqL.keepS hS s0,fun pc hpc=>?_⟩
 rw [ems]
 have s1:=zo (o:=.lst (ms.map V.int)) (Same.refl H0) hpc
 have e1:upd H0 pc (.lst (ms.map V.int)) pc=some (.lst (ms.map V.int)):=ze
 generalize upd H0 pc (.lst (ms.map V.int))=H1 at s1 e1
 refine ⟨p0,pc,_,_,rfl,rfl,s1 _ _ e0,e1,szl (by rw [List.length_map];show 2+_≤1000;omega),fun pr hpr=>?_⟩
 have s2:=zo (o:=.lst ([V.int 0,V.int 1]++ms.map V.int)) (fun b o z=>s1 b o (s0 b o z):Same H H1) hpr
 have e2:upd H1 pr (.lst ([V.int 0,V.int 1]++ms.map V.int)) pr=some (.lst ([V.int 0,V.int 1]++ms.map V.int)):=ze
 generalize upd H1 pr (.lst ([V.int 0,V.int 1]++ms.map V.int))=H2 at e2 s2
 refine ⟨pr,rfl,⟨_,SqL.of e2⟩,?_⟩
 refine zcv (xs:=[V.int 0,V.int 1]++ms.map V.int) (fun i σ H'=>∃k1 k2:Option V,σ=[some (.ref a),k1,k2]∧Same H2 H') ⟨_,_,rfl,Same.refl _⟩ ?_ ?_ ?_
 ·rintro i σ H' _ ⟨k1,k2,rfl,sm⟩
  exact SqL.of (sm _ _ e2)
 ·rintro i y σ H' hy ⟨k1,k2,rfl,sm⟩
  have key:∃n:Int,y=.int n:=by
   have hm:y∈ [V.int 0,V.int 1]++ms.map V.int:=List.mem_of_getElem? hy
   rcases List.mem_append.mp hm with h | h
   ·simp only [List.mem_cons,List.not_mem_nil,or_false] at h
    rcases h with rfl | rfl <;> exact ⟨_,rfl⟩
   ·obtain ⟨n,_,rfl⟩:=List.mem_map.mp h
    exact ⟨n,rfl⟩
  obtain ⟨n,rfl⟩:=key
  refine ⟨_,rfl,n,rfl,fun row H3 s3 R3 hr0=>?_⟩
  have hr2:H2 row=none:=sm.free hr0
  refine ⟨_,rfl,_,rfl,row,_,rfl,R3,(show (0:Int) < 4 by decide),(by decide+kernel),fun way H4 w0 w1 f4 R4=>?_⟩
  refine ⟨row,way,rfl,R4,w0,w1,fun H5 f5 R5=>⟨_,rfl,ifF rfl ?_⟩⟩
  refine ⟨_,rfl,row,rfl,R5,cl,fun H6 f6=>⟨_,rfl,ifF rfl ⟨_,_,rfl,?_⟩⟩⟩
  exact zfN (fun b o z=>s3 b o (sm b o z)) hr2 ((f4.trans f5).trans f6)
 rintro σ H3 ⟨k1,k2,rfl,sm⟩
 have hS3:SqL K H3 a (ns.map V.int):=Pv.SqL.keepS hS fun b o z=>sm b o (s2 b o z)
 refine ⟨szl (show 1≤1000 by decide),fun p4 hp4=>?_⟩
 have s4:=zo (o:=.lst [.int 0]) (Same.refl H3) hp4
 have e4:upd H3 p4 (.lst [.int 0]) p4=some (.lst [.int 0]):=ze
 generalize upd H3 p4 (.lst [.int 0])=H4 at s4 e4
 obtain ⟨ms',ems',hms'⟩:=zfk ns none (some 3)
 refine ⟨_,rfl,_,rfl,a,_,rfl,Pv.SqL.keepS hS3 s4,fun pc' hpc'=>?_⟩
 rw [ems']
 have s5:=zo (o:=.lst (ms'.map V.int)) (Same.refl H4) hpc'
 have e5:upd H4 pc' (.lst (ms'.map V.int)) pc'=some (.lst (ms'.map V.int)):=ze
 generalize upd H4 pc' (.lst (ms'.map V.int))=H5 at s5 e5
 refine ⟨p4,pc',_,_,rfl,rfl,s5 _ _ e4,e5,szl (by rw [List.length_map];show 1+_≤1000;omega),fun pr' hpr'=>?_⟩
 have e6:upd H5 pr' (.lst ([V.int 0]++ms'.map V.int)) pr'=some (.lst ([V.int 0]++ms'.map V.int)):=ze
 generalize upd H5 pr' (.lst ([V.int 0]++ms'.map V.int))=H6 at e6
 refine ⟨pr',rfl,⟨_,SqL.of e6⟩,?_⟩
 refine zcv (xs:=[V.int 0]++ms'.map V.int) (fun i σ H'=>∃k1:Option V,σ=[some (.ref a),k1,k2]∧Same H6 H') ⟨_,rfl,Same.refl _⟩ ?_ ?_ ?_
 ·rintro i σ H' _ ⟨k1,rfl,sm⟩
  exact SqL.of (sm _ _ e6)
 ·rintro i y σ H' hy ⟨k1,rfl,sm⟩
  have key:∃n:Int,y=.int n:=by
   have hm:y∈ [V.int 0]++ms'.map V.int:=List.mem_of_getElem? hy
   rcases List.mem_append.mp hm with h | h
   ·exact ⟨0,List.mem_singleton.mp h⟩
   ·obtain ⟨n,_,rfl⟩:=List.mem_map.mp h
    exact ⟨n,rfl⟩
  obtain ⟨n,rfl⟩:=key
  refine ⟨_,rfl,n,rfl,fun row H7 s7 R7 hr0=>⟨row,rfl,R7,cl,fun H8 f8=>⟨_,rfl,ifF rfl ⟨_,rfl,?_⟩⟩⟩⟩
  exact zfN (fun b o z=>s7 b o (sm b o z)) (sm.free hr0) f8
 ·rintro σ H' ⟨k1,rfl,sm⟩
  exact q H'
end
end Pv
namespace Pv
open PySem L2
abbrev slaw:Stmt:=top 85
theorem zeL:zm ["script","caught","right","e"] ["script"] (zg slaw):=⟨rfl,rfl,rfl,by decide+kernel,rfl,by decide+kernel,by decide+kernel⟩
def zfn (K:PySem.W.Frag):Sp:=fun vs H Q _=>∃(a:Addr) (ns:List Int),vs=[.ref a]∧SqL K H a (ns.map V.int)∧ns.length≤63∧∀H',Q (.bl true) H'
section
variable {P:Program}{w:World}{K:PySem.W.Frag}{mg:Str→Option Value}{base:Heap}{CC:Addr}
theorem zlk {f:Addr}{fd:FuncData}(F:Fun K "law" "law" slaw f fd) (F_law_held:FnX P w K mg base "_law_held" 29 ["script"] (zja K CC)) (F_seal:Fn P w K mg base "seal" 13 ["thing"] zcf) (c_Clash:mg "Clash" =some (.ref CC)) (xc:XCls K CC) (n1:zy K CC "one") (n2:zy K CC "other")
  (em:PySem.W.exmOne K (.ref CC) (.ref CC)=some true):FnOk P w K mg base CX0 65 f fd ["script"] (zfn K):=by
 refine F.ok (k:=64) zeL (fun vs H Q E h=>?_) (fun cdv A outer s H vs Q E hr h=>?_)
 ·obtain ⟨a,ns,rfl,_⟩:=h;rfl
 obtain ⟨a,ns,rfl,hS,h63,q⟩:=h
 refine ⟨_,(zc (zq (i:=1) zeL.nd rfl (Or.inl rfl) zJ)
 (zc (zq (i:=2) zeL.nd rfl (Or.inl rfl) zal)
 (zc (ziQ (i:=3) rfl rfl zeL.nd rfl rfl (by rfl) c_Clash (fun xe pn E hx=>(zf (zq (i:=2) zeL.nd rfl (Or.inl rfl) (zjq F_law_held hr (by omega) (by rfl) hx (za (pv 0) zb))))) (fun e=>(zf (zq (i:=1) zeL.nd rfl (Or.inl rfl) (pv 3)))))
 (zc (zD (zx zdG (pv 1) zJ (zt _))
 (zf (zl (zbz (zS (zb6 hr) (zcn (K:=K) rfl (pv 1) (by rfl)) (zcn (K:=K) rfl (pv 1) (by rfl)) (zt _)) (zbo (zS zaO (zw F_seal hr (by omega) (by rfl) (za (zcn (K:=K) rfl (pv 1) (by rfl)) zb)) (zw F_seal hr (by omega) (by rfl) (za (zcn (K:=K) rfl (pv 1) (by rfl)) zb)) (zt _))))))
 zr)
 (zf (zl (pv 2))))))),?_⟩
 refine ⟨_,rfl,a,ns,rfl,hS,h63,fun H1=>?_,fun t1 t2 v1 v2 H1 x r1 r2 g1 g2 ne sn ex=>⟨CC,rfl,em,fun e he=>?_⟩⟩
 ·refine ⟨_,rfl,rfl,_,rfl,ifF rfl ?_⟩
  exact ⟨_,rfl,q H1⟩
 ·have xe:x≠e:=zh ex he
  have ex2:upd H1 e (exO e CC (some x) false) x=some (xdO x [("one",v1),("other",v2)]):=by rw [zj xe];exact ex
  have ee2:upd H1 e (exO e CC (some x) false) e=some (exO e CC (some x) false):=ze
  have tk:Tups H1 (upd H1 e (exO e CC (some x) false)):=Tups.new he
  have ra:=r1.keep tk
  have rb:=r2.keep tk
  generalize upd H1 e (exO e CC (some x) false)=H2 at ex2 ee2 tk ra rb
  have gd:=g1.dp
  have gd2:=g2.dp
  have gn:=g1.nd
  have gn2:=g2.nd
  refine ⟨_,rfl,?_⟩
  refine ⟨_,rfl,rfl,_,rfl,ifT rfl ?_⟩
  refine ⟨_,rfl,e,CC,false,x,_,v1,rfl,ee2,ex2,xc,n1,by rfl,_,rfl,e,CC,false,x,_,v2,rfl,ee2,ex2,xc,n2,by rfl,t1,t2,ra,rb,by omega,_,rfl,ifT (by rw [show eqT t1 t2=false from by cases z:eqT t1 t2 with | true=>exact absurd ((zbw _ _).mp z) ne | false=>rfl];rfl) ?_⟩
  refine ⟨_,rfl,e,CC,false,x,_,v1,rfl,ee2,ex2,xc,n1,by rfl,t1,v1,rfl,ra,g1.wf,by omega,by omega,fun H3 s3=>?_⟩
  refine ⟨_,rfl,e,CC,false,x,_,v2,rfl,s3 _ _ ee2,s3 _ _ ex2,xc,n2,by rfl,t2,v2,rfl,rb.keep (Same.tups s3),g2.wf,by omega,by omega,fun H4 s4=>?_⟩
  refine ⟨rfl,?_⟩
  rw [sn,decide_eq_true rfl]
  exact q H4
end
end Pv
namespace Pv
open PySem L2
theorem len0 {us:List Value}(h:us.length=0):us=[]:=List.length_eq_zero_iff.mp h
theorem len1 {us:List Value}(h:us.length=1):∃a,us=[a]:=List.length_eq_one_iff.mp h
theorem len2 {us:List Value}(h:us.length=2):∃a b,us=[a,b]:=by
 cases us with
 | nil=>cases h
 | cons a r=>
  obtain ⟨b,rfl⟩:=len1 (Nat.succ.inj h)
  exact ⟨a,b,rfl⟩
theorem len3 {us:List Value}(h:us.length=3):∃a b c,us=[a,b,c]:=by
 cases us with
 | nil=>cases h
 | cons a r=>
  obtain ⟨b,c,rfl⟩:=len2 (Nat.succ.inj h)
  exact ⟨a,b,c,rfl⟩
theorem len4 {us:List Value}(h:us.length=4):∃a b c d,us=[a,b,c,d]:=by
 cases us with
 | nil=>cases h
 | cons a r=>
  obtain ⟨b,c,d,rfl⟩:=len3 (Nat.succ.inj h)
  exact ⟨a,b,c,d,rfl⟩
theorem len5 {us:List Value}(h:us.length=5):∃a b c d e,us=[a,b,c,d,e]:=by
 cases us with
 | nil=>cases h
 | cons a r=>
  obtain ⟨b,c,d,e,rfl⟩:=len4 (Nat.succ.inj h)
  exact ⟨a,b,c,d,e,rfl⟩
theorem len6 {us:List Value}(h:us.length=6):∃a b c d e f,us=[a,b,c,d,e,f]:=by
 cases us with
 | nil=>cases h
 | cons a r=>
  obtain ⟨b,c,d,e,f,rfl⟩:=len5 (Nat.succ.inj h)
  exact ⟨a,b,c,d,e,f,rfl⟩
theorem zB {K:PySem.W.Frag}{h:Heap}{mg:Str→Option Value}(x:Str)(st:Stmt)(ps:List Str){f:Addr}{od an:Option Addr}{sl:Array (Option Value)}{oc kV dc pm cd ct:Value}(X:K.In h)(G:h.Ns mainGlobals mg)
  (a:PySem.W.nsIn K mainGlobals x=some (some (.ref f))) (l:K.lookup f=some ⟨oc,od,.func (PySem.W.fnOf x x (zag st) (zN st) (zg st) .none kV dc pm an cd ct),sl⟩) (c:PySem.W.codeIn K cd x=true) (k:PySem.W.keepIn K (.ref f)=true)
  (b:∀(kV doc pm:Value) (an:Option Addr) (cdv ct:Value) (us:List Value),us.length=ps.length→bindArgs (PySem.W.fnOf x x (zag st) (zN st) (zg st) .none kV doc pm an cdv ct) ⟨us,[]⟩=pure (ps.zip us)):Dfn K mg x st ps:=
 ⟨_,_,zbk l c k,(zbk l c k).binds b,PySem.W.mg_of X G a⟩
theorem zaU {K:PySem.W.Frag}{h:Heap}{mg:Str→Option Value}{x:Str}{i:Int}{t:Tok}(X:K.In h)(G:h.Ns mainGlobals mg)(a:PySem.W.nsIn K mainGlobals x=some (some (.int i t))):∃t,mg x=some (.int i t):=⟨t,PySem.W.mg_of X G a⟩
theorem zlI {l:PySem.W.OpenLaw}{w:World}{K:PySem.W.Frag}{h:Heap}{mg:Str→Option Value}{fa f:Addr}{od an:Option Addr}{sl:Array (Option Value)}{oc kV dc pm cd ct:Value}(X:K.In h)(G:h.Ns mainGlobals mg)(hfa:mg "law" =some (.ref fa))
  (a:PySem.W.nsIn K mainGlobals "law" =some (some (.ref f))) (lk:K.lookup f=some ⟨oc,od,.func (PySem.W.fnOf "law" "law" (zag slaw) (zN slaw) (zg slaw) .none kV dc pm an cd ct),sl⟩) (c:PySem.W.codeIn K cd "law" =true) (k:PySem.W.keepIn K (.ref f)=true)
  (ok:∀(base:Heap) (fd:FuncData),Fun K "law" "law" slaw f fd→FnOk l.prog w K mg base CX0 65 f fd ["script"] (zfn K)):
  ∃fd:FuncData,(∀(s:Shared) (v:Value),BindsTo s fd ⟨[v],[]⟩ [("script",v)])∧∀base:Heap,K.In base→base.Ns mainGlobals mg→FnOk l.prog w K mg base CX0 65 fa fd ["script"] (zfn K):=by
 have e:=hfa.symm.trans (PySem.W.mg_of X G a)
 cases e
 exact ⟨PySem.W.fnOf "law" "law" (zag slaw) (zN slaw) (zg slaw) .none kV dc pm an cd ct,fun s v=>.of_eq rfl,fun base _ _=>ok base _ (zbk lk c k)⟩
theorem walk {l:PySem.W.OpenLaw}{q:Program}{loose:List Str}{XP:(Str→Option Value)→Heap→Prop}{YP:World→Heap→Prop}{d:DefRec}{K:Params→PySem.W.Frag}(hn:l.most=some 63)(hdf:d.params.defaults=[])
  (hY:∀(w:World) (h:Heap),YP w h→(K w.params).In h)
  (F:∀(w:World) (mg:Str→Option Value) (fa:Addr) (h:Heap),(K w.params).In h→h.Ns mainGlobals mg→mg d.name=some (.ref fa)→
   ∃fd:FuncData,(∀(s:Shared) (u:Value),BindsTo s fd ⟨[u],[]⟩ [("script",u)])∧∀base:Heap,(K w.params).In base→base.Ns mainGlobals mg→FnOk l.prog w (K w.params) mg base CX0 65 fa fd ["script"] (zfn (K w.params))):
  PySem.W.WalkO q loose XP YP l.row.toRowW d [] (fun f vs=>PySem.call f vs):=
 L2.zjT (n:=63) (k:=65) (x:= "script") (CX:=fun _=>CX0) (sp:=fun w=>zfn (K w.params)) hn (by decide) hdf ⟨rfl,by decide,by decide⟩ hY F (fun _ _ a ns hl _ hS=>⟨a,ns,rfl,hS,hl,fun _=>rfl⟩) fun _ _ _ _ _ z=>z
end Pv
open PySem PySem.W PyProof.Rows
set_option maxRecDepth 100000 in
set_option maxHeartbeats 0 in
theorem PySem.Challenge.cw_papervault_k43_bad_things_holds : PySem.Challenge.rw_papervault_k43_bad_things.Holds := by
 refine holds_law Pv.said fun said=>?_
 refine holds_open (q:=Pv.VQ) (loose:=[]) (XP:=XL Pv.VQ []) (YP:=InK Pv.KK) Pv.left (InK.of Pv.addrs) InK.keeps (fun s e=>xl_of s (Bool.and_eq_true_iff.mp e).1) XL.keeps (by rfl) (by rfl) (by rfl) (fun s e=>recFacts_of (Bool.and_eq_true_iff.mp e).2) (by rfl) said (by decide+kernel) ⟨rfl,rfl,rfl,rfl,rfl,by decide+kernel⟩ ?hw ?hc
 (case hw=>w_witness2)
 k_fill
 refine Pv.walk (l:=PySem.Challenge.rw_papervault_k43_bad_things) rfl rfl (fun w h Y=>Y) ?F
 case F=>
  intro w mg fa h KX G hmg
  have D_seal:L2.Dfn (L2.KOf KX) mg "seal" Pv.zjG ["thing"]:=by
   dsimp only [L2.KOf]
   refine' Pv.zB _ _ _ KX G ?a ?l ?c ?k ?b
   (case a=>k_is);(case l=>k_is);(case c=>k_is);(case k=>k_is)
   (case b=>intro _ _ _ _ _ _ us hl;obtain ⟨_,rfl⟩:=Pv.len1 hl;rfl)
  have D_codes:L2.Dfn (L2.KOf KX) mg "codes" Pv.zgp ["thing"]:=by
   dsimp only [L2.KOf]
   refine' Pv.zB _ _ _ KX G ?a ?l ?c ?k ?b
   (case a=>k_is);(case l=>k_is);(case c=>k_is);(case k=>k_is)
   (case b=>intro _ _ _ _ _ _ us hl;obtain ⟨_,rfl⟩:=Pv.len1 hl;rfl)
  have D_number_of:L2.Dfn (L2.KOf KX) mg "number_of" Pv.zcK ["signs"]:=by
   dsimp only [L2.KOf]
   refine' Pv.zB _ _ _ KX G ?a ?l ?c ?k ?b
   (case a=>k_is);(case l=>k_is);(case c=>k_is);(case k=>k_is)
   (case b=>intro _ _ _ _ _ _ us hl;obtain ⟨_,rfl⟩:=Pv.len1 hl;rfl)
  have D_is_whole:L2.Dfn (L2.KOf KX) mg "is_whole" Pv.zcA ["value"]:=by
   dsimp only [L2.KOf]
   refine' Pv.zB _ _ _ KX G ?a ?l ?c ?k ?b
   (case a=>k_is);(case l=>k_is);(case c=>k_is);(case k=>k_is)
   (case b=>intro _ _ _ _ _ _ us hl;obtain ⟨_,rfl⟩:=Pv.len1 hl;rfl)
  have D_is_thing:L2.Dfn (L2.KOf KX) mg "is_thing" Pv.zdm ["thing"]:=by
   dsimp only [L2.KOf]
   refine' Pv.zB _ _ _ KX G ?a ?l ?c ?k ?b
   (case a=>k_is);(case l=>k_is);(case c=>k_is);(case k=>k_is)
   (case b=>intro _ _ _ _ _ _ us hl;obtain ⟨_,rfl⟩:=Pv.len1 hl;rfl)
  have D_is_thing_within:L2.Dfn (L2.KOf KX) mg "is_thing_within" Pv.zaZ ["thing","deep"]:=by
   dsimp only [L2.KOf]
   refine' Pv.zB _ _ _ KX G ?a ?l ?c ?k ?b
   (case a=>k_is);(case l=>k_is);(case c=>k_is);(case k=>k_is)
   (case b=>intro _ _ _ _ _ _ us hl;obtain ⟨_,_,rfl⟩:=Pv.len2 hl;rfl)
  have D_is_tuple_within:L2.Dfn (L2.KOf KX) mg "is_tuple_within" Pv.zaA ["parts","deep"]:=by
   dsimp only [L2.KOf]
   refine' Pv.zB _ _ _ KX G ?a ?l ?c ?k ?b
   (case a=>k_is);(case l=>k_is);(case c=>k_is);(case k=>k_is)
   (case b=>intro _ _ _ _ _ _ us hl;obtain ⟨_,_,rfl⟩:=Pv.len2 hl;rfl)
  have D_has_signs_of_things:L2.Dfn (L2.KOf KX) mg "has_signs_of_things" Pv.zax ["text"]:=by
   dsimp only [L2.KOf]
   refine' Pv.zB _ _ _ KX G ?a ?l ?c ?k ?b
   (case a=>k_is);(case l=>k_is);(case c=>k_is);(case k=>k_is)
   (case b=>intro _ _ _ _ _ _ us hl;obtain ⟨_,rfl⟩:=Pv.len1 hl;rfl)
  have D_kind_of:L2.Dfn (L2.KOf KX) mg "kind_of" Pv.zd0 ["thing"]:=by
   dsimp only [L2.KOf]
   refine' Pv.zB _ _ _ KX G ?a ?l ?c ?k ?b
   (case a=>k_is);(case l=>k_is);(case c=>k_is);(case k=>k_is)
   (case b=>intro _ _ _ _ _ _ us hl;obtain ⟨_,rfl⟩:=Pv.len1 hl;rfl)
  have D_ahead:L2.Dfn (L2.KOf KX) mg "ahead" Pv.zgr ["one","other"]:=by
   dsimp only [L2.KOf]
   refine' Pv.zB _ _ _ KX G ?a ?l ?c ?k ?b
   (case a=>k_is);(case l=>k_is);(case c=>k_is);(case k=>k_is)
   (case b=>intro _ _ _ _ _ _ us hl;obtain ⟨_,_,rfl⟩:=Pv.len2 hl;rfl)
  have D_is_tuple_ahead:L2.Dfn (L2.KOf KX) mg "is_tuple_ahead" Pv.zaJ ["one","other"]:=by
   dsimp only [L2.KOf]
   refine' Pv.zB _ _ _ KX G ?a ?l ?c ?k ?b
   (case a=>k_is);(case l=>k_is);(case c=>k_is);(case k=>k_is)
   (case b=>intro _ _ _ _ _ _ us hl;obtain ⟨_,_,rfl⟩:=Pv.len2 hl;rfl)
  have D_checked:L2.Dfn (L2.KOf KX) mg "checked" Pv.zef ["root","ask","paper"]:=by
   dsimp only [L2.KOf]
   refine' Pv.zB _ _ _ KX G ?a ?l ?c ?k ?b
   (case a=>k_is);(case l=>k_is);(case c=>k_is);(case k=>k_is)
   (case b=>intro _ _ _ _ _ _ us hl;obtain ⟨_,_,_,rfl⟩:=Pv.len3 hl;rfl)
  have D_node_beneath:L2.Dfn (L2.KOf KX) mg "node_beneath" Pv.zbD ["vault","root","count"]:=by
   dsimp only [L2.KOf]
   refine' Pv.zB _ _ _ KX G ?a ?l ?c ?k ?b
   (case a=>k_is);(case l=>k_is);(case c=>k_is);(case k=>k_is)
   (case b=>intro _ _ _ _ _ _ us hl;obtain ⟨_,_,_,rfl⟩:=Pv.len3 hl;rfl)
  have D_is_node:L2.Dfn (L2.KOf KX) mg "is_node" Pv.zd5 ["thing"]:=by
   dsimp only [L2.KOf]
   refine' Pv.zB _ _ _ KX G ?a ?l ?c ?k ?b
   (case a=>k_is);(case l=>k_is);(case c=>k_is);(case k=>k_is)
   (case b=>intro _ _ _ _ _ _ us hl;obtain ⟨_,rfl⟩:=Pv.len1 hl;rfl)
  have D_is_root:L2.Dfn (L2.KOf KX) mg "is_root" Pv.zd8 ["thing"]:=by
   dsimp only [L2.KOf]
   refine' Pv.zB _ _ _ KX G ?a ?l ?c ?k ?b
   (case a=>k_is);(case l=>k_is);(case c=>k_is);(case k=>k_is)
   (case b=>intro _ _ _ _ _ _ us hl;obtain ⟨_,rfl⟩:=Pv.len1 hl;rfl)
  have D_size:L2.Dfn (L2.KOf KX) mg "size" Pv.ssize ["vault","root"]:=by
   dsimp only [L2.KOf]
   refine' Pv.zB _ _ _ KX G ?a ?l ?c ?k ?b
   (case a=>k_is);(case l=>k_is);(case c=>k_is);(case k=>k_is)
   (case b=>intro _ _ _ _ _ _ us hl;obtain ⟨_,_,rfl⟩:=Pv.len2 hl;rfl)
  have D_size_beneath:L2.Dfn (L2.KOf KX) mg "size_beneath" Pv.zbG ["vault","root","count"]:=by
   dsimp only [L2.KOf]
   refine' Pv.zB _ _ _ KX G ?a ?l ?c ?k ?b
   (case a=>k_is);(case l=>k_is);(case c=>k_is);(case k=>k_is)
   (case b=>intro _ _ _ _ _ _ us hl;obtain ⟨_,_,_,rfl⟩:=Pv.len3 hl;rfl)
  have D_rank:L2.Dfn (L2.KOf KX) mg "rank" Pv.ziz ["key"]:=by
   dsimp only [L2.KOf]
   refine' Pv.zB _ _ _ KX G ?a ?l ?c ?k ?b
   (case a=>k_is);(case l=>k_is);(case c=>k_is);(case k=>k_is)
   (case b=>intro _ _ _ _ _ _ us hl;obtain ⟨_,rfl⟩:=Pv.len1 hl;rfl)
  have D_above:L2.Dfn (L2.KOf KX) mg "above" Pv.zgu ["key","other"]:=by
   dsimp only [L2.KOf]
   refine' Pv.zB _ _ _ KX G ?a ?l ?c ?k ?b
   (case a=>k_is);(case l=>k_is);(case c=>k_is);(case k=>k_is)
   (case b=>intro _ _ _ _ _ _ us hl;obtain ⟨_,_,rfl⟩:=Pv.len2 hl;rfl)
  have D_side_of:L2.Dfn (L2.KOf KX) mg "side_of" Pv.zei ["node","key"]:=by
   dsimp only [L2.KOf]
   refine' Pv.zB _ _ _ KX G ?a ?l ?c ?k ?b
   (case a=>k_is);(case l=>k_is);(case c=>k_is);(case k=>k_is)
   (case b=>intro _ _ _ _ _ _ us hl;obtain ⟨_,_,rfl⟩:=Pv.len2 hl;rfl)
  have D_way_to:L2.Dfn (L2.KOf KX) mg "way_to" Pv.zeR ["vault","root","key"]:=by
   dsimp only [L2.KOf]
   refine' Pv.zB _ _ _ KX G ?a ?l ?c ?k ?b
   (case a=>k_is);(case l=>k_is);(case c=>k_is);(case k=>k_is)
   (case b=>intro _ _ _ _ _ _ us hl;obtain ⟨_,_,_,rfl⟩:=Pv.len3 hl;rfl)
  have D_ends_at:L2.Dfn (L2.KOf KX) mg "ends_at" Pv.zeh ["way","key"]:=by
   dsimp only [L2.KOf]
   refine' Pv.zB _ _ _ KX G ?a ?l ?c ?k ?b
   (case a=>k_is);(case l=>k_is);(case c=>k_is);(case k=>k_is)
   (case b=>intro _ _ _ _ _ _ us hl;obtain ⟨_,_,rfl⟩:=Pv.len2 hl;rfl)
  have D_found:L2.Dfn (L2.KOf KX) mg "found" Pv.zgf ["vault","root","key"]:=by
   dsimp only [L2.KOf]
   refine' Pv.zB _ _ _ KX G ?a ?l ?c ?k ?b
   (case a=>k_is);(case l=>k_is);(case c=>k_is);(case k=>k_is)
   (case b=>intro _ _ _ _ _ _ us hl;obtain ⟨_,_,_,rfl⟩:=Pv.len3 hl;rfl)
  have D_is_empty:L2.Dfn (L2.KOf KX) mg "is_empty" Pv.zdn ["low","high"]:=by
   dsimp only [L2.KOf]
   refine' Pv.zB _ _ _ KX G ?a ?l ?c ?k ?b
   (case a=>k_is);(case l=>k_is);(case c=>k_is);(case k=>k_is)
   (case b=>intro _ _ _ _ _ _ us hl;obtain ⟨_,_,rfl⟩:=Pv.len2 hl;rfl)
  have D_goes_left:L2.Dfn (L2.KOf KX) mg "goes_left" Pv.zcL ["node","low"]:=by
   dsimp only [L2.KOf]
   refine' Pv.zB _ _ _ KX G ?a ?l ?c ?k ?b
   (case a=>k_is);(case l=>k_is);(case c=>k_is);(case k=>k_is)
   (case b=>intro _ _ _ _ _ _ us hl;obtain ⟨_,_,rfl⟩:=Pv.len2 hl;rfl)
  have D_goes_right:L2.Dfn (L2.KOf KX) mg "goes_right" Pv.zck ["node","high"]:=by
   dsimp only [L2.KOf]
   refine' Pv.zB _ _ _ KX G ?a ?l ?c ?k ?b
   (case a=>k_is);(case l=>k_is);(case c=>k_is);(case k=>k_is)
   (case b=>intro _ _ _ _ _ _ us hl;obtain ⟨_,_,rfl⟩:=Pv.len2 hl;rfl)
  have D_refuse_sum:L2.Dfn (L2.KOf KX) mg "refuse_sum" Pv.zch ["vault","node"]:=by
   dsimp only [L2.KOf]
   refine' Pv.zB _ _ _ KX G ?a ?l ?c ?k ?b
   (case a=>k_is);(case l=>k_is);(case c=>k_is);(case k=>k_is)
   (case b=>intro _ _ _ _ _ _ us hl;obtain ⟨_,_,rfl⟩:=Pv.len2 hl;rfl)
  have D_stretch:L2.Dfn (L2.KOf KX) mg "stretch" Pv.zdM ["vault","root","low","high"]:=by
   dsimp only [L2.KOf]
   refine' Pv.zB _ _ _ KX G ?a ?l ?c ?k ?b
   (case a=>k_is);(case l=>k_is);(case c=>k_is);(case k=>k_is)
   (case b=>intro _ _ _ _ _ _ us hl;obtain ⟨_,_,_,_,rfl⟩:=Pv.len4 hl;rfl)
  have D_count_ahead:L2.Dfn (L2.KOf KX) mg "count_ahead" Pv.zbT ["vault","root","key"]:=by
   dsimp only [L2.KOf]
   refine' Pv.zB _ _ _ KX G ?a ?l ?c ?k ?b
   (case a=>k_is);(case l=>k_is);(case c=>k_is);(case k=>k_is)
   (case b=>intro _ _ _ _ _ _ us hl;obtain ⟨_,_,_,rfl⟩:=Pv.len3 hl;rfl)
  have D_counted:L2.Dfn (L2.KOf KX) mg "counted" Pv.zel ["vault","root","low","high"]:=by
   dsimp only [L2.KOf]
   refine' Pv.zB _ _ _ KX G ?a ?l ?c ?k ?b
   (case a=>k_is);(case l=>k_is);(case c=>k_is);(case k=>k_is)
   (case b=>intro _ _ _ _ _ _ us hl;obtain ⟨_,_,_,_,rfl⟩:=Pv.len4 hl;rfl)
  have D_nth:L2.Dfn (L2.KOf KX) mg "nth" Pv.snth ["vault","root","number"]:=by
   dsimp only [L2.KOf]
   refine' Pv.zB _ _ _ KX G ?a ?l ?c ?k ?b
   (case a=>k_is);(case l=>k_is);(case c=>k_is);(case k=>k_is)
   (case b=>intro _ _ _ _ _ _ us hl;obtain ⟨_,_,_,rfl⟩:=Pv.len3 hl;rfl)
  have D_with_tree:L2.Dfn (L2.KOf KX) mg "with_tree" Pv.zgt ["node","side","root","count"]:=by
   dsimp only [L2.KOf]
   refine' Pv.zB _ _ _ KX G ?a ?l ?c ?k ?b
   (case a=>k_is);(case l=>k_is);(case c=>k_is);(case k=>k_is)
   (case b=>intro _ _ _ _ _ _ us hl;obtain ⟨_,_,_,_,rfl⟩:=Pv.len4 hl;rfl)
  have D_hung:L2.Dfn (L2.KOf KX) mg "hung" Pv.zmi ["vault","way","key","root","more"]:=by
   dsimp only [L2.KOf]
   refine' Pv.zB _ _ _ KX G ?a ?l ?c ?k ?b
   (case a=>k_is);(case l=>k_is);(case c=>k_is);(case k=>k_is)
   (case b=>intro _ _ _ _ _ _ us hl;obtain ⟨_,_,_,_,_,rfl⟩:=Pv.len5 hl;rfl)
  have D_parted:L2.Dfn (L2.KOf KX) mg "parted" Pv.zj4 ["vault","way","key","root","count"]:=by
   dsimp only [L2.KOf]
   refine' Pv.zB _ _ _ KX G ?a ?l ?c ?k ?b
   (case a=>k_is);(case l=>k_is);(case c=>k_is);(case k=>k_is)
   (case b=>intro _ _ _ _ _ _ us hl;obtain ⟨_,_,_,_,_,rfl⟩:=Pv.len5 hl;rfl)
  have D_place_in:L2.Dfn (L2.KOf KX) mg "place_in" Pv.zhI ["way","key"]:=by
   dsimp only [L2.KOf]
   refine' Pv.zB _ _ _ KX G ?a ?l ?c ?k ?b
   (case a=>k_is);(case l=>k_is);(case c=>k_is);(case k=>k_is)
   (case b=>intro _ _ _ _ _ _ us hl;obtain ⟨_,_,rfl⟩:=Pv.len2 hl;rfl)
  have D_put:L2.Dfn (L2.KOf KX) mg "put" Pv.sput ["vault","root","key","worth"]:=by
   dsimp only [L2.KOf]
   refine' Pv.zB _ _ _ KX G ?a ?l ?c ?k ?b
   (case a=>k_is);(case l=>k_is);(case c=>k_is);(case k=>k_is)
   (case b=>intro _ _ _ _ _ _ us hl;obtain ⟨_,_,_,_,rfl⟩:=Pv.len4 hl;rfl)
  have D_cut:L2.Dfn (L2.KOf KX) mg "cut" Pv.scut ["vault","root","key"]:=by
   dsimp only [L2.KOf]
   refine' Pv.zB _ _ _ KX G ?a ?l ?c ?k ?b
   (case a=>k_is);(case l=>k_is);(case c=>k_is);(case k=>k_is)
   (case b=>intro _ _ _ _ _ _ us hl;obtain ⟨_,_,_,rfl⟩:=Pv.len3 hl;rfl)
  have D_joined:L2.Dfn (L2.KOf KX) mg "joined" Pv.zj0 ["vault","left","right","count"]:=by
   dsimp only [L2.KOf]
   refine' Pv.zB _ _ _ KX G ?a ?l ?c ?k ?b
   (case a=>k_is);(case l=>k_is);(case c=>k_is);(case k=>k_is)
   (case b=>intro _ _ _ _ _ _ us hl;obtain ⟨_,_,_,_,rfl⟩:=Pv.len4 hl;rfl)
  have D__law_row:L2.Dfn (L2.KOf KX) mg "_law_row" Pv.zdj ["cell"]:=by
   dsimp only [L2.KOf]
   refine' Pv.zB _ _ _ KX G ?a ?l ?c ?k ?b
   (case a=>k_is);(case l=>k_is);(case c=>k_is);(case k=>k_is)
   (case b=>intro _ _ _ _ _ _ us hl;obtain ⟨_,rfl⟩:=Pv.len1 hl;rfl)
  have D__law_take:L2.Dfn (L2.KOf KX) mg "_law_take" Pv.zcI ["row","many"]:=by
   dsimp only [L2.KOf]
   refine' Pv.zB _ _ _ KX G ?a ?l ?c ?k ?b
   (case a=>k_is);(case l=>k_is);(case c=>k_is);(case k=>k_is)
   (case b=>intro _ _ _ _ _ _ us hl;obtain ⟨_,_,rfl⟩:=Pv.len2 hl;rfl)
  have D__law_spoilt:L2.Dfn (L2.KOf KX) mg "_law_spoilt" Pv.zbZ ["node","row"]:=by
   dsimp only [L2.KOf]
   refine' Pv.zB _ _ _ KX G ?a ?l ?c ?k ?b
   (case a=>k_is);(case l=>k_is);(case c=>k_is);(case k=>k_is)
   (case b=>intro _ _ _ _ _ _ us hl;obtain ⟨_,_,rfl⟩:=Pv.len2 hl;rfl)
  have D__law_kinds:L2.Dfn (L2.KOf KX) mg "_law_kinds" Pv.zce ["root","ask","paper"]:=by
   dsimp only [L2.KOf]
   refine' Pv.zB _ _ _ KX G ?a ?l ?c ?k ?b
   (case a=>k_is);(case l=>k_is);(case c=>k_is);(case k=>k_is)
   (case b=>intro _ _ _ _ _ _ us hl;obtain ⟨_,_,_,rfl⟩:=Pv.len3 hl;rfl)
  have D__law_ask:L2.Dfn (L2.KOf KX) mg "_law_ask" Pv.zc7 ["row","key","number"]:=by
   dsimp only [L2.KOf]
   refine' Pv.zB _ _ _ KX G ?a ?l ?c ?k ?b
   (case a=>k_is);(case l=>k_is);(case c=>k_is);(case k=>k_is)
   (case b=>intro _ _ _ _ _ _ us hl;obtain ⟨_,_,_,rfl⟩:=Pv.len3 hl;rfl)
  have D__law_is_bad:L2.Dfn (L2.KOf KX) mg "_law_is_bad" Pv.zb0 ["row","way"]:=by
   dsimp only [L2.KOf]
   refine' Pv.zB _ _ _ KX G ?a ?l ?c ?k ?b
   (case a=>k_is);(case l=>k_is);(case c=>k_is);(case k=>k_is)
   (case b=>intro _ _ _ _ _ _ us hl;obtain ⟨_,_,rfl⟩:=Pv.len2 hl;rfl)
  have D__law_is_good:L2.Dfn (L2.KOf KX) mg "_law_is_good" Pv.zbC ["row"]:=by
   dsimp only [L2.KOf]
   refine' Pv.zB _ _ _ KX G ?a ?l ?c ?k ?b
   (case a=>k_is);(case l=>k_is);(case c=>k_is);(case k=>k_is)
   (case b=>intro _ _ _ _ _ _ us hl;obtain ⟨_,rfl⟩:=Pv.len1 hl;rfl)
  have D__law_ladder:L2.Dfn (L2.KOf KX) mg "_law_ladder" Pv.zb7 ["row"]:=by
   dsimp only [L2.KOf]
   refine' Pv.zB _ _ _ KX G ?a ?l ?c ?k ?b
   (case a=>k_is);(case l=>k_is);(case c=>k_is);(case k=>k_is)
   (case b=>intro _ _ _ _ _ _ us hl;obtain ⟨_,rfl⟩:=Pv.len1 hl;rfl)
  have D__law_held:L2.Dfn (L2.KOf KX) mg "_law_held" Pv.zcN ["script"]:=by
   dsimp only [L2.KOf]
   refine' Pv.zB _ _ _ KX G ?a ?l ?c ?k ?b
   (case a=>k_is);(case l=>k_is);(case c=>k_is);(case k=>k_is)
   (case b=>intro _ _ _ _ _ _ us hl;obtain ⟨_,rfl⟩:=Pv.len1 hl;rfl)
  have m_ValueError:mg "ValueError" =none:=by
   refine' PySem.W.mg_none_of KX G ?z
   (case z=>k_is)
  have m_abs:mg "abs" =none:=by
   refine' PySem.W.mg_none_of KX G ?z
   (case z=>k_is)
  have m_bool:mg "bool" =none:=by
   refine' PySem.W.mg_none_of KX G ?z
   (case z=>k_is)
  have m_enumerate:mg "enumerate" =none:=by
   refine' PySem.W.mg_none_of KX G ?z
   (case z=>k_is)
  have m_int:mg "int" =none:=by
   refine' PySem.W.mg_none_of KX G ?z
   (case z=>k_is)
  have m_isinstance:mg "isinstance" =none:=by
   refine' PySem.W.mg_none_of KX G ?z
   (case z=>k_is)
  have m_len:mg "len" =none:=by
   refine' PySem.W.mg_none_of KX G ?z
   (case z=>k_is)
  have m_ord:mg "ord" =none:=by
   refine' PySem.W.mg_none_of KX G ?z
   (case z=>k_is)
  have m_range:mg "range" =none:=by
   refine' PySem.W.mg_none_of KX G ?z
   (case z=>k_is)
  have m_reversed:mg "reversed" =none:=by
   refine' PySem.W.mg_none_of KX G ?z
   (case z=>k_is)
  have m_sorted:mg "sorted" =none:=by
   refine' PySem.W.mg_none_of KX G ?z
   (case z=>k_is)
  have m_str:mg "str" =none:=by
   refine' PySem.W.mg_none_of KX G ?z
   (case z=>k_is)
  have m_tuple:mg "tuple" =none:=by
   refine' PySem.W.mg_none_of KX G ?z
   (case z=>k_is)
  have m_zip:mg "zip" =none:=by
   refine' PySem.W.mg_none_of KX G ?z
   (case z=>k_is)
  have g_BENEATH_NONE:∃t,mg "BENEATH_NONE" =some (.int 301 t):=by
   refine' Pv.zaU KX G ?z
   (case z=>k_is)
  obtain ⟨t_BENEATH_NONE,g_BENEATH_NONE⟩:=g_BENEATH_NONE
  have g_COUNT:∃t,mg "COUNT" =some (.int 4 t):=by
   refine' Pv.zaU KX G ?z
   (case z=>k_is)
  obtain ⟨t_COUNT,g_COUNT⟩:=g_COUNT
  have g_KEY:∃t,mg "KEY" =some (.int 0 t):=by
   refine' Pv.zaU KX G ?z
   (case z=>k_is)
  obtain ⟨t_KEY,g_KEY⟩:=g_KEY
  have g_LEFT:∃t,mg "LEFT" =some (.int 2 t):=by
   refine' Pv.zaU KX G ?z
   (case z=>k_is)
  obtain ⟨t_LEFT,g_LEFT⟩:=g_LEFT
  have g_MOST_DEEP:∃t,mg "MOST_DEEP" =some (.int 5 t):=by
   refine' Pv.zaU KX G ?z
   (case z=>k_is)
  obtain ⟨t_MOST_DEEP,g_MOST_DEEP⟩:=g_MOST_DEEP
  have g_MOST_NODES:∃t,mg "MOST_NODES" =some (.int 300 t):=by
   refine' Pv.zaU KX G ?z
   (case z=>k_is)
  obtain ⟨t_MOST_NODES,g_MOST_NODES⟩:=g_MOST_NODES
  have g_MOST_PARTS:∃t,mg "MOST_PARTS" =some (.int 40 t):=by
   refine' Pv.zaU KX G ?z
   (case z=>k_is)
  obtain ⟨t_MOST_PARTS,g_MOST_PARTS⟩:=g_MOST_PARTS
  have g_MOST_SIGNS:∃t,mg "MOST_SIGNS" =some (.int 60 t):=by
   refine' Pv.zaU KX G ?z
   (case z=>k_is)
  obtain ⟨t_MOST_SIGNS,g_MOST_SIGNS⟩:=g_MOST_SIGNS
  have g_PERCENT:∃t,mg "PERCENT" =some (.int 37 t):=by
   refine' Pv.zaU KX G ?z
   (case z=>k_is)
  obtain ⟨t_PERCENT,g_PERCENT⟩:=g_PERCENT
  have g_RIGHT:∃t,mg "RIGHT" =some (.int 3 t):=by
   refine' Pv.zaU KX G ?z
   (case z=>k_is)
  obtain ⟨t_RIGHT,g_RIGHT⟩:=g_RIGHT
  have g_WORTH:∃t,mg "WORTH" =some (.int 1 t):=by
   refine' Pv.zaU KX G ?z
   (case z=>k_is)
  obtain ⟨t_WORTH,g_WORTH⟩:=g_WORTH
  obtain ⟨CW,cW,nLW,dWI,dWR,dWL,dWT⟩:∃C,L2.Cls (L2.KOf KX) C∧L2.zy (L2.KOf KX) C "laid" ∧L2.Mkd (L2.KOf KX) mg "Witness" C "Witness.__init__" Pv.zas ["self","paper"]∧L2.Mdf (L2.KOf KX) C "refuse_clash" "Vault.refuse_clash" Pv.zaj ["self","number","thing"]∧L2.Mdf (L2.KOf KX) C "lay" "Vault.lay" Pv.zb8 ["self","thing"]∧L2.Mdf (L2.KOf KX) C "thing" "Vault.thing" Pv.zbe ["self","number"]:=by
   dsimp only [L2.KOf]
   refine' L2.zar KX (x:= "Witness") ?n ⟨?c0,?c1,?c2,?c3,?c4,?c5⟩
   (case n=>k_is)
   (case c0=>refine' L2.zcM ?a ?b ?c ?d;(case a=>k_is);(case b=>k_is);(case c=>k_is);(case d=>k_is))
   (case c1=>unfold L2.zy;k_is)
   (case c2=>refine' L2.zcH (qual:= "Witness.__init__") (st:=Pv.zas) (ps:=["self","paper"]) KX G ?n ?mk ?a ?fn ?l ?c ?k ?kc ?b;(case n=>k_is);(case mk=>k_is);(case a=>k_is);(case fn=>k_is);(case l=>k_is);(case c=>k_is);(case k=>k_is);(case kc=>k_is);(case b=>intro _ _ _ _ _ _ us hl;obtain ⟨_,_,rfl⟩:=Pv.len2 hl;rfl))
   (case c3=>refine' L2.zb3 (m:= "refuse_clash") (qual:= "Vault.refuse_clash") (st:=Pv.zaj) (ps:=["self","number","thing"]) ?a ?fn ?l ?c ?k ?b;(case a=>k_is);(case fn=>k_is);(case l=>k_is);(case c=>k_is);(case k=>k_is);(case b=>intro _ _ _ _ _ _ us hl;obtain ⟨_,_,_,rfl⟩:=Pv.len3 hl;rfl))
   (case c4=>refine' L2.zb3 (m:= "lay") (qual:= "Vault.lay") (st:=Pv.zb8) (ps:=["self","thing"]) ?a ?fn ?l ?c ?k ?b;(case a=>k_is);(case fn=>k_is);(case l=>k_is);(case c=>k_is);(case k=>k_is);(case b=>intro _ _ _ _ _ _ us hl;obtain ⟨_,_,rfl⟩:=Pv.len2 hl;rfl))
   (case c5=>refine' L2.zb3 (m:= "thing") (qual:= "Vault.thing") (st:=Pv.zbe) (ps:=["self","number"]) ?a ?fn ?l ?c ?k ?b;(case a=>k_is);(case fn=>k_is);(case l=>k_is);(case c=>k_is);(case k=>k_is);(case b=>intro _ _ _ _ _ _ us hl;obtain ⟨_,_,rfl⟩:=Pv.len2 hl;rfl))
  have gI:L2.Kdf (L2.KOf KX) mg "Vault" "__init__" "Vault.__init__" Pv.zaK ["self"]:=by
   dsimp only [L2.KOf]
   refine' L2.zlG (mc:=.type "type") (qual:= "Vault.__init__") (st:=Pv.zaK) (ps:=["self"]) KX G ?n ?g ?rd ?fc ?l ?c ?k ?b
   (case n=>k_is);(case g=>k_is);(case rd=>k_is);(case fc=>k_is);(case l=>k_is);(case c=>k_is);(case k=>k_is)
   (case b=>intro _ _ _ _ _ _ us hl;obtain ⟨_,rfl⟩:=Pv.len1 hl;rfl)
  obtain ⟨CFind,cFind,nFind0,dFindI,dFindA⟩:∃C,L2.Cls (L2.KOf KX) C∧L2.zy (L2.KOf KX) C "key" ∧L2.Mkd (L2.KOf KX) mg "Find" C "Find.__init__" Pv.zaT ["self","key"]∧L2.Mdf (L2.KOf KX) C "answer" "Find.answer" Pv.zbb ["self","vault","root"]:=by
   dsimp only [L2.KOf]
   refine' L2.zar KX (x:= "Find") ?n ⟨?c0,?c1,?c2,?c3⟩
   (case n=>k_is)
   (case c0=>refine' L2.zcM ?a ?b ?c ?d;(case a=>k_is);(case b=>k_is);(case c=>k_is);(case d=>k_is))
   (case c1=>unfold L2.zy;k_is)
   (case c2=>refine' L2.zcH (qual:= "Find.__init__") (st:=Pv.zaT) (ps:=["self","key"]) KX G ?n ?mk ?a ?fn ?l ?c ?k ?kc ?b;(case n=>k_is);(case mk=>k_is);(case a=>k_is);(case fn=>k_is);(case l=>k_is);(case c=>k_is);(case k=>k_is);(case kc=>k_is);(case b=>intro _ _ _ _ _ _ us hl;obtain ⟨_,_,rfl⟩:=Pv.len2 hl;rfl))
   (case c3=>refine' L2.zb3 (m:= "answer") (qual:= "Find.answer") (st:=Pv.zbb) (ps:=["self","vault","root"]) ?a ?fn ?l ?c ?k ?b;(case a=>k_is);(case fn=>k_is);(case l=>k_is);(case c=>k_is);(case k=>k_is);(case b=>intro _ _ _ _ _ _ us hl;obtain ⟨_,_,_,rfl⟩:=Pv.len3 hl;rfl))
  obtain ⟨CStretch,cStretch,nStretch0,nStretch1,dStretchI,dStretchA⟩:∃C,L2.Cls (L2.KOf KX) C∧L2.zy (L2.KOf KX) C "low" ∧L2.zy (L2.KOf KX) C "high" ∧L2.Mkd (L2.KOf KX) mg "Stretch" C "Stretch.__init__" Pv.zat ["self","low","high"]∧L2.Mdf (L2.KOf KX) C "answer" "Stretch.answer" Pv.zaI ["self","vault","root"]:=by
   dsimp only [L2.KOf]
   refine' L2.zar KX (x:= "Stretch") ?n ⟨?c0,?c1,?c2,?c3,?c4⟩
   (case n=>k_is)
   (case c0=>refine' L2.zcM ?a ?b ?c ?d;(case a=>k_is);(case b=>k_is);(case c=>k_is);(case d=>k_is))
   (case c1=>unfold L2.zy;k_is)
   (case c2=>unfold L2.zy;k_is)
   (case c3=>refine' L2.zcH (qual:= "Stretch.__init__") (st:=Pv.zat) (ps:=["self","low","high"]) KX G ?n ?mk ?a ?fn ?l ?c ?k ?kc ?b;(case n=>k_is);(case mk=>k_is);(case a=>k_is);(case fn=>k_is);(case l=>k_is);(case c=>k_is);(case k=>k_is);(case kc=>k_is);(case b=>intro _ _ _ _ _ _ us hl;obtain ⟨_,_,_,rfl⟩:=Pv.len3 hl;rfl))
   (case c4=>refine' L2.zb3 (m:= "answer") (qual:= "Stretch.answer") (st:=Pv.zaI) (ps:=["self","vault","root"]) ?a ?fn ?l ?c ?k ?b;(case a=>k_is);(case fn=>k_is);(case l=>k_is);(case c=>k_is);(case k=>k_is);(case b=>intro _ _ _ _ _ _ us hl;obtain ⟨_,_,_,rfl⟩:=Pv.len3 hl;rfl))
  obtain ⟨CCount,cCount,nCount0,nCount1,dCountI,dCountA⟩:∃C,L2.Cls (L2.KOf KX) C∧L2.zy (L2.KOf KX) C "low" ∧L2.zy (L2.KOf KX) C "high" ∧L2.Mkd (L2.KOf KX) mg "Count" C "Count.__init__" Pv.zaH ["self","low","high"]∧L2.Mdf (L2.KOf KX) C "answer" "Count.answer" Pv.za5 ["self","vault","root"]:=by
   dsimp only [L2.KOf]
   refine' L2.zar KX (x:= "Count") ?n ⟨?c0,?c1,?c2,?c3,?c4⟩
   (case n=>k_is)
   (case c0=>refine' L2.zcM ?a ?b ?c ?d;(case a=>k_is);(case b=>k_is);(case c=>k_is);(case d=>k_is))
   (case c1=>unfold L2.zy;k_is)
   (case c2=>unfold L2.zy;k_is)
   (case c3=>refine' L2.zcH (qual:= "Count.__init__") (st:=Pv.zaH) (ps:=["self","low","high"]) KX G ?n ?mk ?a ?fn ?l ?c ?k ?kc ?b;(case n=>k_is);(case mk=>k_is);(case a=>k_is);(case fn=>k_is);(case l=>k_is);(case c=>k_is);(case k=>k_is);(case kc=>k_is);(case b=>intro _ _ _ _ _ _ us hl;obtain ⟨_,_,_,rfl⟩:=Pv.len3 hl;rfl))
   (case c4=>refine' L2.zb3 (m:= "answer") (qual:= "Count.answer") (st:=Pv.za5) (ps:=["self","vault","root"]) ?a ?fn ?l ?c ?k ?b;(case a=>k_is);(case fn=>k_is);(case l=>k_is);(case c=>k_is);(case k=>k_is);(case b=>intro _ _ _ _ _ _ us hl;obtain ⟨_,_,_,rfl⟩:=Pv.len3 hl;rfl))
  obtain ⟨CNth,cNth,nNth0,dNthI,dNthA⟩:∃C,L2.Cls (L2.KOf KX) C∧L2.zy (L2.KOf KX) C "number" ∧L2.Mkd (L2.KOf KX) mg "Nth" C "Nth.__init__" Pv.za3 ["self","number"]∧L2.Mdf (L2.KOf KX) C "answer" "Nth.answer" Pv.zbr ["self","vault","root"]:=by
   dsimp only [L2.KOf]
   refine' L2.zar KX (x:= "Nth") ?n ⟨?c0,?c1,?c2,?c3⟩
   (case n=>k_is)
   (case c0=>refine' L2.zcM ?a ?b ?c ?d;(case a=>k_is);(case b=>k_is);(case c=>k_is);(case d=>k_is))
   (case c1=>unfold L2.zy;k_is)
   (case c2=>refine' L2.zcH (qual:= "Nth.__init__") (st:=Pv.za3) (ps:=["self","number"]) KX G ?n ?mk ?a ?fn ?l ?c ?k ?kc ?b;(case n=>k_is);(case mk=>k_is);(case a=>k_is);(case fn=>k_is);(case l=>k_is);(case c=>k_is);(case k=>k_is);(case kc=>k_is);(case b=>intro _ _ _ _ _ _ us hl;obtain ⟨_,_,rfl⟩:=Pv.len2 hl;rfl))
   (case c3=>refine' L2.zb3 (m:= "answer") (qual:= "Nth.answer") (st:=Pv.zbr) (ps:=["self","vault","root"]) ?a ?fn ?l ?c ?k ?b;(case a=>k_is);(case fn=>k_is);(case l=>k_is);(case c=>k_is);(case k=>k_is);(case b=>intro _ _ _ _ _ _ us hl;obtain ⟨_,_,_,rfl⟩:=Pv.len3 hl;rfl))
  obtain ⟨CPut,cPut,nPut0,nPut1,dPutI,dPutA⟩:∃C,L2.Cls (L2.KOf KX) C∧L2.zy (L2.KOf KX) C "key" ∧L2.zy (L2.KOf KX) C "worth" ∧L2.Mkd (L2.KOf KX) mg "Put" C "Put.__init__" Pv.za2 ["self","key","worth"]∧L2.Mdf (L2.KOf KX) C "answer" "Put.answer" Pv.zbx ["self","vault","root"]:=by
   dsimp only [L2.KOf]
   refine' L2.zar KX (x:= "Put") ?n ⟨?c0,?c1,?c2,?c3,?c4⟩
   (case n=>k_is)
   (case c0=>refine' L2.zcM ?a ?b ?c ?d;(case a=>k_is);(case b=>k_is);(case c=>k_is);(case d=>k_is))
   (case c1=>unfold L2.zy;k_is)
   (case c2=>unfold L2.zy;k_is)
   (case c3=>refine' L2.zcH (qual:= "Put.__init__") (st:=Pv.za2) (ps:=["self","key","worth"]) KX G ?n ?mk ?a ?fn ?l ?c ?k ?kc ?b;(case n=>k_is);(case mk=>k_is);(case a=>k_is);(case fn=>k_is);(case l=>k_is);(case c=>k_is);(case k=>k_is);(case kc=>k_is);(case b=>intro _ _ _ _ _ _ us hl;obtain ⟨_,_,_,rfl⟩:=Pv.len3 hl;rfl))
   (case c4=>refine' L2.zb3 (m:= "answer") (qual:= "Put.answer") (st:=Pv.zbx) (ps:=["self","vault","root"]) ?a ?fn ?l ?c ?k ?b;(case a=>k_is);(case fn=>k_is);(case l=>k_is);(case c=>k_is);(case k=>k_is);(case b=>intro _ _ _ _ _ _ us hl;obtain ⟨_,_,_,rfl⟩:=Pv.len3 hl;rfl))
  obtain ⟨CCut,cCut,nCut0,dCutI,dCutA⟩:∃C,L2.Cls (L2.KOf KX) C∧L2.zy (L2.KOf KX) C "key" ∧L2.Mkd (L2.KOf KX) mg "Cut" C "Cut.__init__" Pv.za6 ["self","key"]∧L2.Mdf (L2.KOf KX) C "answer" "Cut.answer" Pv.zbv ["self","vault","root"]:=by
   dsimp only [L2.KOf]
   refine' L2.zar KX (x:= "Cut") ?n ⟨?c0,?c1,?c2,?c3⟩
   (case n=>k_is)
   (case c0=>refine' L2.zcM ?a ?b ?c ?d;(case a=>k_is);(case b=>k_is);(case c=>k_is);(case d=>k_is))
   (case c1=>unfold L2.zy;k_is)
   (case c2=>refine' L2.zcH (qual:= "Cut.__init__") (st:=Pv.za6) (ps:=["self","key"]) KX G ?n ?mk ?a ?fn ?l ?c ?k ?kc ?b;(case n=>k_is);(case mk=>k_is);(case a=>k_is);(case fn=>k_is);(case l=>k_is);(case c=>k_is);(case k=>k_is);(case kc=>k_is);(case b=>intro _ _ _ _ _ _ us hl;obtain ⟨_,_,rfl⟩:=Pv.len2 hl;rfl))
   (case c3=>refine' L2.zb3 (m:= "answer") (qual:= "Cut.answer") (st:=Pv.zbv) (ps:=["self","vault","root"]) ?a ?fn ?l ?c ?k ?b;(case a=>k_is);(case fn=>k_is);(case l=>k_is);(case c=>k_is);(case k=>k_is);(case b=>intro _ _ _ _ _ _ us hl;obtain ⟨_,_,_,rfl⟩:=Pv.len3 hl;rfl))
  obtain ⟨CVaultError,CBadThing,CNoPaper,CClash,CNoState,CNoThing,CNotOn,c_VaultError,c_BadThing,c_NoPaper,c_Clash,c_NoState,c_NoThing,c_NotOn,kB,xB,xN,xC,n1,n2,xM⟩:∃CVaultError CBadThing CNoPaper CClash CNoState CNoThing CNotOn,mg "VaultError" =some (.ref CVaultError)∧mg "BadThing" =some (.ref CBadThing)∧mg "NoPaper" =some (.ref CNoPaper)∧mg "Clash" =some (.ref CClash)∧mg "NoState" =some (.ref CNoState)∧mg "NoThing" =some (.ref CNoThing)∧mg "NotOn" =some (.ref CNotOn)∧Pv.zkI (L2.KOf KX) CBadThing CVaultError CClash CNoPaper CNoState CNoThing CNotOn∧L2.XP (L2.KOf KX) mg "BadThing" CBadThing∧L2.XP (L2.KOf KX) mg "NoPaper" CNoPaper∧L2.XId (L2.KOf KX) mg "Clash" CClash "Clash.__init__" Pv.zaL ["self","one","other"]∧L2.zy (L2.KOf KX) CClash "one" ∧L2.zy (L2.KOf KX) CClash "other" ∧PySem.W.exmOne (L2.KOf KX) (.ref CClash) (.ref CClash)=some true:=by
   dsimp only [L2.KOf]
   refine' L2.zar KX (x:= "VaultError") ?n0 (L2.zar KX (x:= "BadThing") ?n1 (L2.zar KX (x:= "NoPaper") ?n2 (L2.zar KX (x:= "Clash") ?n3 (L2.zar KX (x:= "NoState") ?n4 (L2.zar KX (x:= "NoThing") ?n5 (L2.zar KX (x:= "NotOn") ?n6 (⟨?c0,?c1,?c2,?c3,?c4,?c5,?c6,?c7,?c8,?c9,?c10,?c11,?c12,?c13⟩)))))))
   (case n0=>k_is)
   (case n1=>k_is)
   (case n2=>k_is)
   (case n3=>k_is)
   (case n4=>k_is)
   (case n5=>k_is)
   (case n6=>k_is)
   (case c0=>refine' PySem.W.mg_of KX G ?z;(case z=>k_is))
   (case c1=>refine' PySem.W.mg_of KX G ?z;(case z=>k_is))
   (case c2=>refine' PySem.W.mg_of KX G ?z;(case z=>k_is))
   (case c3=>refine' PySem.W.mg_of KX G ?z;(case z=>k_is))
   (case c4=>refine' PySem.W.mg_of KX G ?z;(case z=>k_is))
   (case c5=>refine' PySem.W.mg_of KX G ?z;(case z=>k_is))
   (case c6=>refine' PySem.W.mg_of KX G ?z;(case z=>k_is))
   (case c7=>refine' ⟨?kd,?e0,?em,?k1,?k3,?k4⟩;(case kd=>refine' ⟨?cl,?ha,?hn,?ht,?hm⟩;(case cl=>refine' L2.zdI ?xq ?xo ?xs ?xg ?xh ?xk;(case xq=>kernel_rfl);(case xo=>kernel_rfl);(case xs=>k_is);(case xg=>k_is);(case xh=>k_is);(case xk=>k_is));(case ha=>k_is);(case hn=>first | k_is | kernel_rfl);(case ht=>first | k_is | kernel_rfl);(case hm=>first | k_is | kernel_rfl));(case e0=>kernel_rfl);(case em=>kernel_rfl);(case k1=>kernel_rfl);(case k3=>kernel_rfl);(case k4=>kernel_rfl))
   (case c8=>refine' ⟨?cl,?ei,?m⟩;(case cl=>refine' L2.zdI ?xq ?xo ?xs ?xg ?xh ?xk;(case xq=>kernel_rfl);(case xo=>kernel_rfl);(case xs=>k_is);(case xg=>k_is);(case xh=>k_is);(case xk=>k_is));(case ei=>kernel_rfl);(case m=>refine' PySem.W.mg_of KX G ?z;(case z=>k_is)))
   (case c9=>refine' ⟨?cl,?ei,?m⟩;(case cl=>refine' L2.zdI ?xq ?xo ?xs ?xg ?xh ?xk;(case xq=>kernel_rfl);(case xo=>kernel_rfl);(case xs=>k_is);(case xg=>k_is);(case xh=>k_is);(case xk=>k_is));(case ei=>kernel_rfl);(case m=>refine' PySem.W.mg_of KX G ?z;(case z=>k_is)))
   (case c10=>refine' L2.zlv (qual:= "Clash.__init__") (st:=Pv.zaL) (ps:=["self","one","other"]) KX G ?n ?cl ?a ?fn ?l ?c ?k ?b;(case n=>k_is);(case cl=>refine' L2.zdI ?xq ?xo ?xs ?xg ?xh ?xk;(case xq=>kernel_rfl);(case xo=>kernel_rfl);(case xs=>k_is);(case xg=>k_is);(case xh=>k_is);(case xk=>k_is));(case a=>k_is);(case fn=>k_is);(case l=>k_is);(case c=>k_is);(case k=>k_is);(case b=>intro _ _ _ _ _ _ us hl;obtain ⟨_,_,_,rfl⟩:=Pv.len3 hl;rfl))
   (case c11=>unfold L2.zy;k_is)
   (case c12=>unfold L2.zy;k_is)
   (case c13=>kernel_rfl)
  refine' Pv.zlI KX G hmg ?a ?l ?c ?k ?ok
  (case a=>k_is);(case l=>k_is);(case c=>k_is);(case k=>k_is)
  case ok=>
   intro base fd F
   have f_row:=Pv.zk7 (P:=PySem.Challenge.rw_papervault_k43_bad_things.prog) (w:=w) (base:=base) D__law_row
   have f_take:=Pv.zjW (P:=PySem.Challenge.rw_papervault_k43_bad_things.prog) (w:=w) (base:=base) D__law_take
   have f_num:=Pv.zeQ (P:=PySem.Challenge.rw_papervault_k43_bad_things.prog) (w:=w) (base:=base) D_number_of m_ord
   have f_codes:=Pv.zfj D_codes f_num m_isinstance m_int m_str m_range m_len 10
   have f_seal:=Pv.zky D_seal f_codes
   have f_kind:=Pv.zj9 (P:=PySem.Challenge.rw_papervault_k43_bad_things.prog) (w:=w) (base:=base) D_kind_of m_isinstance m_int m_str
   have f_ahead:=Pv.zfr D_ahead D_is_tuple_ahead f_kind m_zip m_len m_isinstance m_tuple 9
   have g_init:=Pv.ziK (P:=PySem.Challenge.rw_papervault_k43_bad_things.prog) (w:=w) (base:=base) gI cW nLW
   have x_clash:=Pv.ziU (P:=PySem.Challenge.rw_papervault_k43_bad_things.prog) (w:=w) (base:=base) xC n1 n2
   have m_refuse:=Pv.zhL dWR x_clash cW nLW
   have m_lay:=Pv.zkl (Pv.zlD dWL m_refuse f_seal cW nLW)
   have m_thing:=Pv.zhE (Pv.zhC (P:=PySem.Challenge.rw_papervault_k43_bad_things.prog) (w:=w) (base:=base) dWT xN cW nLW)
   have f_whole0:=Pv.ziH (P:=PySem.Challenge.rw_papervault_k43_bad_things.prog) (w:=w) (base:=base) D_is_whole m_isinstance m_int m_bool
   have f_signs:=Pv.zix (P:=PySem.Challenge.rw_papervault_k43_bad_things.prog) (w:=w) (base:=base) D_has_signs_of_things m_ord g_PERCENT
   have f_within:=Pv.zes D_is_thing_within D_is_tuple_within f_whole0 f_signs m_isinstance m_tuple m_str m_int m_len m_abs g_MOST_SIGNS g_MOST_PARTS 6
   have f_isT:=Pv.zlJ D_is_thing f_within g_MOST_DEEP
   have k_wit:=Pv.zma dWI g_init f_isT m_lay xB cW
   have f_whole:=Pv.zhH (P:=PySem.Challenge.rw_papervault_k43_bad_things.prog) (w:=w) (base:=base) D_is_whole m_isinstance m_int m_bool
   have f_root:=Pv.zjF D_is_root f_whole
   have f_isnode:=Pv.zhY D_is_node f_root f_whole m_isinstance m_tuple m_len g_KEY g_WORTH g_LEFT g_RIGHT g_COUNT g_MOST_NODES
   have f_ben:=Pv.zjS D_node_beneath m_thing cW f_isnode xB g_COUNT
   have f_sizeb:=Pv.zhW D_size_beneath f_ben g_COUNT
   have f_size:=Pv.zjH D_size f_sizeb g_BENEATH_NONE
   have f_sum:=Pv.zjN D_refuse_sum f_sizeb xB g_LEFT g_RIGHT g_COUNT
   have f_rank:=Pv.zjY D_rank f_seal
   have f_above:=Pv.zif D_above f_rank f_ahead
   have f_side:=Pv.zkn D_side_of f_ahead g_KEY g_LEFT g_RIGHT
   have f_way:=Pv.zj2 D_way_to f_ben f_side g_KEY g_COUNT g_BENEATH_NONE
   have f_ends:=Pv.zil (P:=PySem.Challenge.rw_papervault_k43_bad_things.prog) (w:=w) (base:=base) D_ends_at g_KEY m_len
   have f_found:=Pv.zh6 D_found f_way f_ends g_WORTH
   have f_put:=Pv.zjU D_put f_way
   have f_cut:=Pv.zkt D_cut f_way
   have f_empty:=Pv.zjy D_is_empty f_ahead
   have f_goesL:=Pv.ziV D_goes_left f_ahead g_KEY
   have f_goesR:=Pv.ziT D_goes_right f_ahead g_KEY
   have f_cnt:=Pv.zkr D_count_ahead f_way f_ahead f_sizeb g_KEY g_LEFT g_COUNT
   have f_counted:=Pv.zh9 D_counted f_empty f_size f_cnt
   have f_nth:=Pv.zj8 D_nth f_ben f_sizeb g_KEY g_WORTH g_LEFT g_RIGHT g_COUNT g_BENEATH_NONE
   have f_stretch:=Pv.zfU D_stretch f_empty f_ben f_goesL f_goesR f_sum f_ahead g_KEY g_WORTH g_LEFT g_RIGHT g_COUNT g_BENEATH_NONE m_len
   have k_find:=Pv.zi7 (P:=PySem.Challenge.rw_papervault_k43_bad_things.prog) (w:=w) (base:=base) dFindI cFind nFind0
   have k_str:=Pv.zfv (P:=PySem.Challenge.rw_papervault_k43_bad_things.prog) (w:=w) (base:=base) dStretchI cStretch nStretch0 nStretch1
   have k_cnt:=Pv.zhJ (P:=PySem.Challenge.rw_papervault_k43_bad_things.prog) (w:=w) (base:=base) dCountI cCount nCount0 nCount1
   have k_nth:=Pv.zkk (P:=PySem.Challenge.rw_papervault_k43_bad_things.prog) (w:=w) (base:=base) dNthI cNth nNth0
   have k_put:=Pv.zkx (P:=PySem.Challenge.rw_papervault_k43_bad_things.prog) (w:=w) (base:=base) dPutI cPut nPut0 nPut1
   have k_cut:=Pv.zkv (P:=PySem.Challenge.rw_papervault_k43_bad_things.prog) (w:=w) (base:=base) dCutI cCut nCut0
   have a_find:=Pv.zjE (cl:=fun k=>match k with | .fi=>CFind | .st=>CStretch | .co=>CCount | .nt=>CNth | .pu=>CPut | .cu=>CCut) dFindA f_found cFind nFind0
   have a_str:=Pv.zfI (cl:=fun k=>match k with | .fi=>CFind | .st=>CStretch | .co=>CCount | .nt=>CNth | .pu=>CPut | .cu=>CCut) dStretchA f_stretch cStretch nStretch0 nStretch1
   have a_cnt:=Pv.zh8 (cl:=fun k=>match k with | .fi=>CFind | .st=>CStretch | .co=>CCount | .nt=>CNth | .pu=>CPut | .cu=>CCut) dCountA f_counted cCount nCount0 nCount1
   have a_nth:=Pv.zks (cl:=fun k=>match k with | .fi=>CFind | .st=>CStretch | .co=>CCount | .nt=>CNth | .pu=>CPut | .cu=>CCut) dNthA f_nth cNth nNth0
   have a_put:=Pv.zj1 (cl:=fun k=>match k with | .fi=>CFind | .st=>CStretch | .co=>CCount | .nt=>CNth | .pu=>CPut | .cu=>CCut) dPutA f_put cPut nPut0 nPut1
   have a_cut:=Pv.zjZ (cl:=fun k=>match k with | .fi=>CFind | .st=>CStretch | .co=>CCount | .nt=>CNth | .pu=>CPut | .cu=>CCut) dCutA f_cut cCut nCut0
   have f_checked:=Pv.zgB (cl:=fun k=>match k with | .fi=>CFind | .st=>CStretch | .co=>CCount | .nt=>CNth | .pu=>CPut | .cu=>CCut) D_checked k_wit (fun k _=>by cases k;exact a_find;exact a_str;exact a_cnt;exact a_nth;exact a_put;exact a_cut) (fun k _=>by cases k;exact cFind;exact cStretch;exact cCount;exact cNth;exact cPut;exact cCut)
   have f_knd:=Pv.zlV D__law_kinds f_checked f_seal kB xM xC.cl n1 n2 c_VaultError c_BadThing c_Clash c_NoPaper c_NoState c_NoThing c_NotOn m_isinstance m_ValueError
   have f_ask:=Pv.zlq (cl:=fun k=>match k with | .fi=>CFind | .st=>CStretch | .co=>CCount | .nt=>CNth | .pu=>CPut | .cu=>CCut) D__law_ask f_take k_find k_str k_cnt k_nth k_put k_cut
   have f_spo:=Pv.zlE D__law_spoilt f_take
   have f_bad:=Pv.zjV (cl:=fun k=>match k with | .fi=>CFind | .st=>CStretch | .co=>CCount | .nt=>CNth | .pu=>CPut | .cu=>CCut) D__law_is_bad f_take f_above f_seal f_spo f_ask f_knd k_str m_int
   have f_good:=Pv.zim (cl:=fun k=>match k with | .fi=>CFind | .st=>CStretch | .co=>CCount | .nt=>CNth | .pu=>CPut | .cu=>CCut) D__law_is_good f_take f_above f_seal f_checked k_find k_str k_nth m_int m_sorted
   have f_lad:=Pv.zlo (cl:=fun k=>match k with | .fi=>CFind | .st=>CStretch | .co=>CCount | .nt=>CNth | .pu=>CPut | .cu=>CCut) D__law_ladder f_take f_seal f_checked f_knd k_find k_str m_range
   have f_held:=Pv.zka D__law_held f_row f_take f_bad f_good f_lad
   exact Pv.zlk F f_held f_seal c_Clash xC.cl n1 n2 xM
#print axioms PySem.Challenge.cw_papervault_k43_bad_things_holds
